import PyProof.Rows.All
import Wide.All
import OpenK.AllK
import Wide.FinOn
import HandS.ForMost
import HandS.ForExc
import HandS.Walk
import HandS.CallSlots
import HandS.TupAny
import KE.KDictKeyed
import HandS.Wide
import HandS.WideBits
import HandS.IsInst
import HandS.Deep
import HandS.TupMul
import HandS.NoneIn
import HandS.EndBits
import PyProof.ReprReads
import PyProof.ReprRoads
import KE.SortCalls
import KE.SortKeyed
import KE.DataCmp
import HandS.Conv
import HandS.Style
import HandS.Defaults
import PyProof.ReprLen
import PyProof.FitsInt
import PyProof.EnumMake
import PyProof.Draws
import HandS.Iter
import PyProof.ConsumeWalk
import PyProof.Rows.SeqGen
import HandS.Zip
import HandS.TupLe
import HandS.SetKeys
import KE.KDictWalk
import KE.DataMinMax
import PySem.Challenge.RW_clearsheets_k01_groups_and_parts
set_option Elab.async false
set_option linter.all false
set_option maxRecDepth 100000
set_option maxHeartbeats 2000000
namespace RL
open PySem PySem.Spec PyProof.Rows L2

/-! ### abstract values, cells, stores -/
inductive D where
  | non | bl (b : Bool) | int (i : Int) | str (s : Str) | tup (xs : List D) | ptr (n : Nat)
inductive Cell where
  | lst (xs : List D)
  | rol (xs : List D)
  | dct (kvs : List (L2.Key × D))
  /-- a dict whose keys are ints, or tuples of ints and such tuples -/
  | dcx (kvs : List (NestedKey × D))
  /-- such a dict, locked for good: read, never written -/
  | rox (kvs : List (NestedKey × D))
abbrev Store := List Cell
abbrev Env := List (Option D)
structure Exn where
  name : Str
  fs : List (Str × D)
inductive Res (α : Type) where
  | ok (a : α) (S : Store) | exn (x : Exn) (S : Store) | bad
def Res.bind {α β : Type} (r : Res α) (f : α → Store → Res β) : Res β :=
  match r with
  | .ok a S => f a S
  | .exn x S => .exn x S
  | .bad => .bad
inductive SRes where
  | next (ρ : Env) (S : Store) | ret (d : D) (S : Store) | brk (ρ : Env) (S : Store) | cont (ρ : Env) (S : Store) | exn (x : Exn) (ρ : Env) (S : Store) | bad
abbrev ME := Env → Store → Res D
abbrev MT := Env → Store → Res Bool
abbrev MA := Env → Store → Res (List D)
abbrev MS := Env → Store → SRes
abbrev Fn := List D → Store → Res D

/-! ### how they lie in the heap -/
/-- a list of the written part -/
def KSeq (K : PySem.W.Frag) (a : Addr) (xs : List V) : Prop :=
  ∃ (o : Obj) (its : Array Value) (n : Nat), K.lookup a = some o ∧ o.cls = .type "list" ∧ o.dict = none ∧ o.data = .seq its n ∧ its.size ≤ sizeLine ∧ Vals xs its.toList
def Cell.mut : Cell → Bool
  | .rol _ => false
  | .rox _ => true
  | _ => true
section
variable (K : PySem.W.Frag) (H : Hp) (φ : List Addr)
mutual
def RD : D → V → Prop
  | .non, v => v = .non
  | .bl b, v => v = .bl b
  | .int i, v => v = .int i
  | .str s, v => v = .str s
  | .tup ds, v => ∃ a xs, v = .ref a ∧ SqT K H a xs ∧ RDs ds xs
  | .ptr n, v => ∃ a, φ[n]? = some a ∧ v = .ref a
def RDs : List D → List V → Prop
  | [], vs => vs = []
  | d :: ds, vs => ∃ v vs', vs = v :: vs' ∧ RD d v ∧ RDs ds vs'
end
def RE : Env → L2.St → Prop
  | [], σ => σ = []
  | none :: ρ, σ => ∃ ov σ', σ = ov :: σ' ∧ RE ρ σ'
  | some d :: ρ, σ => ∃ v σ', σ = some v :: σ' ∧ RD K H φ d v ∧ RE ρ σ'
def RKv : List (L2.Key × D) → List (L2.Key × V) → Prop
  | [], ks => ks = []
  | (k, d) :: r, ks => ∃ v r', ks = (k, v) :: r' ∧ RD K H φ d v ∧ RKv r r'
mutual
/-- a key as a value -/
def KyV : NestedKey → V → Prop
  | .num i, v => v = .int i
  | .tup ks, v => ∃ a xs, v = .ref a ∧ SqT K H a xs ∧ KyVs ks xs
  | _, _ => False
def KyVs : List NestedKey → List V → Prop
  | [], vs => vs = []
  | k :: ks, vs => ∃ v vs', vs = v :: vs' ∧ KyV k v ∧ KyVs ks vs'
end
/-- the object of a dict with tuple keys -/
def DXo (a : Addr) (es : List (NestedKey × Addr × V)) : HO := .ext fun h => ∃ xs : List (NestedKey × Addr × Value), Paired (fun (e : NestedKey × Addr × V) (x : NestedKey × Addr × Value) => e.1 = x.1 ∧ e.2.1 = x.2.1 ∧ RelV e.2.2 x.2.2) es xs ∧
  ∃ o ds ep, h.get? a = some o ∧ o.ExactDict ∧ o.data = .dict ds ep ∧ (∀ (P : Program) (w : World), ds.toList = xs.map (entryOfKey (nestedKind P w))) ∧ (xs.map (·.1)).Nodup
def RKi : List (NestedKey × D) → List (L2.Key × V) → Prop
  | [], ks => ks = []
  | (k, d) :: r, ks => ∃ i v r', k = .num i ∧ ks = (Sum.inl i, v) :: r' ∧ RD K H φ d v ∧ RKi r r'
def RKx : List (NestedKey × D) → List (NestedKey × Addr × V) → Prop
  | [], es => es = []
  | (k, d) :: r, es => ∃ b v r' ks, k = .tup ks ∧ k.depth ≤ 8 ∧ es = (k, b, v) :: r' ∧ KyV K H k (.ref b) ∧ RD K H φ d v ∧ RKx r r'
def RC : Cell → Addr → Prop
  | .dcx kvs, a => (∃ ks, H a = some (.dK ks) ∧ RKi K H φ kvs ks) ∨ ∃ es, kvs ≠ [] ∧ kvs.length ≤ sizeLine ∧ (a == sysModules) = false ∧ H a = some (DXo a es) ∧ RKx K H φ kvs es
  | .rox kvs, a => ∃ o, (∃ ks, H a = some (.frz o (.dK ks)) ∧ RKi K H φ kvs ks) ∨ ∃ es, (a == sysModules) = false ∧ H a = some (.frz o (DXo a es)) ∧ RKx K H φ kvs es
  | .lst ds, a => ∃ xs, H a = some (.lst xs) ∧ RDs K H φ ds xs
  | .rol ds, a => ∃ xs, ((∃ o, H a = some (.frz o (.lst xs))) ∨ KSeq K a xs) ∧ RDs K H φ ds xs
  | .dct kvs, a => ∃ ks, H a = some (.dK ks) ∧ RKv K H φ kvs ks
structure RS (S : Store) : Prop where
  len : φ.length = S.length
  nd : ∀ (m n : Nat) (a : Addr) (c c' : Cell), S[m]? = some c → S[n]? = some c' → φ[m]? = some a → φ[n]? = some a → c.mut = true → c'.mut = true → m = n
  cell : ∀ (n : Nat) (c : Cell) (a : Addr), S[n]? = some c → φ[n]? = some a → RC K H φ c a
def RX (mg : Str → Option Value) (x : Exn) (cls : Value) (d : Option Addr) : Prop :=
  mg x.name = some cls ∧ match d with
    | none => x.fs = []
    | some a => ∃ fs, H a = some (.xd fs) ∧ ∀ f e, (f, e) ∈ x.fs → ∃ v, fs.lookup f = some v ∧ RD K H φ e v
end
structure Ext (K : PySem.W.Frag) (φ : List Addr) (H : Hp) (φ' : List Addr) (H' : Hp) : Prop where
  pre : ∀ (n : Nat) (a : Addr), φ[n]? = some a → φ'[n]? = some a
  tup : ∀ (a : Addr) (xs : List V), SqT K H a xs → SqT K H' a xs
  frz : ∀ (a : Addr) (o : Obj) (u : HO), H a = some (.frz o u) → H' a = some (.frz o u)

section
variable {K : PySem.W.Frag} {H H' H'' : Hp} {φ φ' φ'' : List Addr}
theorem Ext.refl : Ext K φ H φ H := ⟨fun _ _ h => h, fun _ _ h => h, fun _ _ _ h => h⟩
theorem Ext.trans (a : Ext K φ H φ' H') (b : Ext K φ' H' φ'' H'') : Ext K φ H φ'' H'' := ⟨fun n x h => b.pre n x (a.pre n x h), fun x xs h => b.tup x xs (a.tup x xs h), fun x o u h => b.frz x o u (a.frz x o u h)⟩
mutual
theorem RD.mono (x : Ext K φ H φ' H') : ∀ (d : D) (v : V), RD K H φ d v → RD K H' φ' d v
  | .non, _, h => h
  | .bl _, _, h => h
  | .int _, _, h => h
  | .str _, _, h => h
  | .tup ds, _, h => by
    unfold RD at h ⊢
    obtain ⟨a, xs, e, s, r⟩ := h
    exact ⟨a, xs, e, x.tup _ _ s, RDs.mono x ds xs r⟩
  | .ptr n, _, h => by
    unfold RD at h ⊢
    obtain ⟨a, p, e⟩ := h
    exact ⟨a, x.pre _ _ p, e⟩
theorem RDs.mono (x : Ext K φ H φ' H') : ∀ (ds : List D) (vs : List V), RDs K H φ ds vs → RDs K H' φ' ds vs
  | [], _, h => h
  | d :: ds, _, h => by
    unfold RDs at h ⊢
    obtain ⟨v, vs', e, r, s⟩ := h
    exact ⟨v, vs', e, RD.mono x d v r, RDs.mono x ds vs' s⟩
end
theorem RE.mono (x : Ext K φ H φ' H') : ∀ (ρ : Env) (σ : L2.St), RE K H φ ρ σ → RE K H' φ' ρ σ
  | [], _, h => h
  | none :: ρ, _, h => by
    unfold RE at h ⊢
    obtain ⟨o, s, e, r⟩ := h
    exact ⟨o, s, e, RE.mono x ρ s r⟩
  | some d :: ρ, _, h => by
    unfold RE at h ⊢
    obtain ⟨v, s, e, q, r⟩ := h
    exact ⟨v, s, e, q.mono x, RE.mono x ρ s r⟩
theorem RKv.mono (x : Ext K φ H φ' H') : ∀ (ds : List (L2.Key × D)) (vs : List (L2.Key × V)), RKv K H φ ds vs → RKv K H' φ' ds vs
  | [], _, h => h
  | (k, d) :: ds, _, h => by
    unfold RKv at h ⊢
    obtain ⟨v, vs', e, r, s⟩ := h
    exact ⟨v, vs', e, RD.mono x d v r, RKv.mono x ds vs' s⟩
mutual
theorem KyV.mono (x : Ext K φ H φ' H') : ∀ (k : NestedKey) (v : V), KyV K H k v → KyV K H' k v
  | .none, _, h => by unfold KyV at h; exact h.elim
  | .text _, _, h => by unfold KyV at h; exact h.elim
  | .num _, _, h => by unfold KyV at h ⊢; exact h
  | .tup ks, _, h => by
    unfold KyV at h ⊢
    obtain ⟨a, xs, e, s, r⟩ := h
    exact ⟨a, xs, e, x.tup _ _ s, KyVs.mono x ks xs r⟩
theorem KyVs.mono (x : Ext K φ H φ' H') : ∀ (ks : List NestedKey) (vs : List V), KyVs K H ks vs → KyVs K H' ks vs
  | [], _, h => by unfold KyVs at h ⊢; exact h
  | k :: ks, _, h => by
    unfold KyVs at h ⊢
    obtain ⟨v, vs', e, r, s⟩ := h
    exact ⟨v, vs', e, KyV.mono x k v r, KyVs.mono x ks vs' s⟩
end
theorem RKi.mono (x : Ext K φ H φ' H') : ∀ (ds : List (NestedKey × D)) (vs : List (L2.Key × V)), RKi K H φ ds vs → RKi K H' φ' ds vs
  | [], _, h => h
  | (k, d) :: ds, _, h => by
    unfold RKi at h ⊢
    obtain ⟨i, v, r', e1, e2, r, s⟩ := h
    exact ⟨i, v, r', e1, e2, RD.mono x d v r, RKi.mono x ds r' s⟩
theorem RKx.mono (x : Ext K φ H φ' H') : ∀ (ds : List (NestedKey × D)) (vs : List (NestedKey × Addr × V)), RKx K H φ ds vs → RKx K H' φ' ds vs
  | [], _, h => h
  | (k, d) :: ds, _, h => by
    unfold RKx at h ⊢
    obtain ⟨b, v, r', ks, e1, e2, e3, r, r2, s⟩ := h
    exact ⟨b, v, r', ks, e1, e2, e3, KyV.mono x k _ r, RD.mono x d v r2, RKx.mono x ds r' s⟩
theorem RDs.length : ∀ {ds : List D} {vs : List V}, RDs K H φ ds vs → vs.length = ds.length
  | [], _, h => by unfold RDs at h; rw [h]; rfl
  | _ :: _, _, h => by
    unfold RDs at h
    obtain ⟨v, vs', e, _, s⟩ := h
    rw [e, List.length_cons, List.length_cons, s.length]
theorem RE.length : ∀ {ρ : Env} {σ : L2.St}, RE K H φ ρ σ → σ.length = ρ.length
  | [], _, h => by unfold RE at h; rw [h]; rfl
  | none :: _, _, h => by
    unfold RE at h
    obtain ⟨o, s, e, r⟩ := h
    rw [e, List.length_cons, List.length_cons, r.length]
  | some _ :: _, _, h => by
    unfold RE at h
    obtain ⟨o, s, e, _, r⟩ := h
    rw [e, List.length_cons, List.length_cons, r.length]
theorem RE.get : ∀ {ρ : Env} {σ : L2.St} {i : Nat} {d : D}, RE K H φ ρ σ → ρ[i]? = some (some d) → ∃ v, σ[i]? = some (some v) ∧ RD K H φ d v
  | [], _, _, _, _, e => by simp at e
  | none :: ρ, σ, i, d, h, e => by
    unfold RE at h
    obtain ⟨o, s, q, r⟩ := h
    cases i with
    | zero => simp at e
    | succ i =>
      obtain ⟨v, h1, h2⟩ := r.get (i := i) (d := d) (by simpa using e)
      exact ⟨v, by rw [q]; simpa using h1, h2⟩
  | some d' :: ρ, σ, i, d, h, e => by
    unfold RE at h
    obtain ⟨v, s, q, rd, r⟩ := h
    cases i with
    | zero =>
      have : d' = d := by simpa using e
      subst this
      exact ⟨v, by rw [q]; rfl, rd⟩
    | succ i =>
      obtain ⟨v, h1, h2⟩ := r.get (i := i) (d := d) (by simpa using e)
      exact ⟨v, by rw [q]; simpa using h1, h2⟩
theorem RE.set : ∀ {ρ : Env} {σ : L2.St} {d : D} {v : V} (i : Nat), RE K H φ ρ σ → RD K H φ d v → RE K H φ (ρ.set i (some d)) (σ.set i (some v))
  | [], _, _, _, i, h, _ => by unfold RE at h; subst h; simp only [List.set_nil]; unfold RE; rfl
  | o :: ρ, σ, d, v, i, h, rd => by
    cases o with
    | none =>
      unfold RE at h
      obtain ⟨o, s, q, r⟩ := h
      subst q
      cases i with
      | zero => simp only [List.set_cons_zero]; unfold RE; exact ⟨v, s, rfl, rd, r⟩
      | succ i => simp only [List.set_cons_succ]; unfold RE; exact ⟨o, _, rfl, r.set i rd⟩
    | some d' =>
      unfold RE at h
      obtain ⟨v', s, q, rd', r⟩ := h
      subst q
      cases i with
      | zero => simp only [List.set_cons_zero]; unfold RE; exact ⟨v, s, rfl, rd, r⟩
      | succ i => simp only [List.set_cons_succ]; unfold RE; exact ⟨v', _, rfl, rd', r.set i rd⟩
theorem RE.forget : ∀ {ρ : Env} {σ : L2.St} (i : Nat) {o : Option V}, RE K H φ ρ σ → RE K H φ (ρ.set i none) (σ.set i o)
  | [], _, i, _, h => by unfold RE at h; subst h; simp only [List.set_nil]; unfold RE; rfl
  | o :: ρ, σ, i, o', h => by
    cases o with
    | none =>
      unfold RE at h
      obtain ⟨o, s, q, r⟩ := h
      subst q
      cases i with
      | zero => simp only [List.set_cons_zero]; unfold RE; exact ⟨o', s, rfl, r⟩
      | succ i => simp only [List.set_cons_succ]; unfold RE; exact ⟨o, _, rfl, r.forget i⟩
    | some d' =>
      unfold RE at h
      obtain ⟨v', s, q, rd', r⟩ := h
      subst q
      cases i with
      | zero => simp only [List.set_cons_zero]; unfold RE; exact ⟨o', s, rfl, r⟩
      | succ i => simp only [List.set_cons_succ]; unfold RE; exact ⟨v', _, rfl, rd', r.forget i⟩
/-- the slots of a comprehension's own names forgotten -/
def wipeE (ρ : Env) : List Nat → Env
  | [] => ρ
  | v :: vs => (wipeE ρ vs).set v none
theorem RE.wipe {ρ : Env} {σ : L2.St} (h : RE K H φ ρ σ) : ∀ vs : List Nat, RE K H φ (wipeE ρ vs) (L2.wipe σ vs)
  | [] => h
  | v :: vs => (h.wipe vs).forget v
theorem RDs.append : ∀ {ds es : List D} {vs us : List V}, RDs K H φ ds vs → RDs K H φ es us → RDs K H φ (ds ++ es) (vs ++ us)
  | [], _, _, _, h, h' => by unfold RDs at h; subst h; exact h'
  | d :: ds, _, _, _, h, h' => by
    unfold RDs at h
    obtain ⟨v, vs', e, r, s⟩ := h
    subst e
    show RDs K H φ (d :: (ds ++ _)) (v :: (vs' ++ _))
    unfold RDs
    exact ⟨v, _, rfl, r, s.append h'⟩
theorem RDs.cons {d : D} {ds : List D} {v : V} {vs : List V} (r : RD K H φ d v) (s : RDs K H φ ds vs) : RDs K H φ (d :: ds) (v :: vs) := by
  unfold RDs; exact ⟨v, vs, rfl, r, s⟩
theorem RDs.nil : RDs K H φ [] [] := by unfold RDs; rfl
theorem RDs.get : ∀ {ds : List D} {vs : List V} {i : Nat} {d : D}, RDs K H φ ds vs → ds[i]? = some d → ∃ v, vs[i]? = some v ∧ RD K H φ d v
  | [], _, _, _, _, e => by simp at e
  | d' :: ds, _, i, d, h, e => by
    unfold RDs at h
    obtain ⟨v, vs', q, r, s⟩ := h
    subst q
    cases i with
    | zero =>
      have : d' = d := by simpa using e
      subst this
      exact ⟨v, rfl, r⟩
    | succ i =>
      obtain ⟨u, h1, h2⟩ := s.get (i := i) (d := d) (by simpa using e)
      exact ⟨u, by simpa using h1, h2⟩
theorem RDs.set : ∀ {ds : List D} {vs : List V} {d : D} {v : V} (i : Nat), RDs K H φ ds vs → RD K H φ d v → RDs K H φ (ds.set i d) (vs.set i v)
  | [], _, _, _, _, h, _ => by unfold RDs at h; subst h; simp only [List.set_nil]; exact RDs.nil
  | d' :: ds, _, d, v, i, h, rd => by
    unfold RDs at h
    obtain ⟨u, vs', q, r, s⟩ := h
    subst q
    cases i with
    | zero => exact RDs.cons rd s
    | succ i => exact RDs.cons r (s.set i rd)
theorem RDs.take : ∀ {ds : List D} {vs : List V} (i : Nat), RDs K H φ ds vs → RDs K H φ (ds.take i) (vs.take i)
  | _, _, 0, _ => RDs.nil
  | [], _, i + 1, h => by unfold RDs at h; subst h; exact RDs.nil
  | d :: ds, _, i + 1, h => by
    unfold RDs at h
    obtain ⟨u, vs', q, r, s⟩ := h
    subst q
    exact RDs.cons r (s.take i)
theorem RDs.drop : ∀ {ds : List D} {vs : List V} (i : Nat), RDs K H φ ds vs → RDs K H φ (ds.drop i) (vs.drop i)
  | _, _, 0, h => h
  | [], _, i + 1, h => by unfold RDs at h; subst h; exact RDs.nil
  | d :: ds, _, i + 1, h => by
    unfold RDs at h
    obtain ⟨u, vs', q, r, s⟩ := h
    subst q
    exact s.drop i
theorem RDs.reverse : ∀ {ds : List D} {vs : List V}, RDs K H φ ds vs → RDs K H φ ds.reverse vs.reverse
  | [], _, h => by unfold RDs at h; subst h; exact RDs.nil
  | d :: ds, _, h => by
    unfold RDs at h
    obtain ⟨u, vs', q, r, s⟩ := h
    subst q
    rw [List.reverse_cons, List.reverse_cons]
    exact s.reverse.append (RDs.cons r RDs.nil)
theorem RDs.replicate {ds : List D} {vs : List V} (h : RDs K H φ ds vs) : ∀ n, RDs K H φ (List.replicate n ds).flatten (List.replicate n vs).flatten
  | 0 => RDs.nil
  | n + 1 => by
    rw [List.replicate_succ, List.replicate_succ, List.flatten_cons, List.flatten_cons]
    exact h.append (RDs.replicate h n)
theorem RE.start : ∀ {ds : List D} {vs : List V} (n : Nat), RDs K H φ ds vs → RE K H φ (ds.map some ++ List.replicate n none) (vs.map some ++ List.replicate n none)
  | [], _, n, h => by
    unfold RDs at h; subst h
    simp only [List.map_nil, List.nil_append]
    induction n with
    | zero => simp only [List.replicate_zero]; unfold RE; rfl
    | succ n ih => rw [List.replicate_succ, List.replicate_succ]; unfold RE; exact ⟨none, _, rfl, ih⟩
  | d :: ds, _, n, h => by
    unfold RDs at h
    obtain ⟨u, vs', q, r, s⟩ := h
    subst q
    simp only [List.map_cons, List.cons_append]
    unfold RE
    exact ⟨u, _, rfl, r, RE.start n s⟩

/-! ### new objects, changed lists -/
theorem SqT.fresh {p : Addr} {o : HO} (hp : H p = none) {a : Addr} {xs : List V} (h : SqT K H a xs) : SqT K (upd H p o) a xs := by
  rcases h with (h | ⟨u, h⟩) | h
  · exact .inl (.inl (by rw [upd_ne (ne_of_none h hp)]; exact h))
  · exact .inl (.inr ⟨u, by rw [upd_ne (ne_of_none h hp)]; exact h⟩)
  · exact .inr h
/-- what is no tuple may be changed -/
def NoTup (o : HO) : Prop := (∀ xs, o ≠ .tup xs) ∧ ∀ u xs, o ≠ .frz u xs
theorem NoTup.lst {ys : List V} : NoTup (.lst ys) := ⟨fun _ z => (by cases z), fun _ _ z => (by cases z)⟩
theorem NoTup.dK {ys : List (L2.Key × V)} : NoTup (.dK ys) := ⟨fun _ z => (by cases z), fun _ _ z => (by cases z)⟩
theorem NoTup.dX {a : Addr} {es : List (NestedKey × Addr × V)} : NoTup (DXo a es) := ⟨fun _ z => (by cases z), fun _ _ z => (by cases z)⟩
theorem SqT.write {p : Addr} {u o : HO} (hp : H p = some u) (hu : NoTup u) {a : Addr} {xs : List V} (h : SqT K H a xs) : SqT K (upd H p o) a xs := by
  rcases h with (h | ⟨w, h⟩) | h
  · exact .inl (.inl (by rw [upd_ne (ne_of h hp (fun z => hu.1 _ z.symm))]; exact h))
  · exact .inl (.inr ⟨w, by rw [upd_ne (ne_of h hp (fun z => hu.2 _ _ z.symm))]; exact h⟩)
  · exact .inr h
theorem RC.tracked {c : Cell} {a : Addr} (h : RC K H φ c a) (hm : c.mut = true) : H a ≠ none := by
  cases c with
  | lst ds => obtain ⟨xs, e, _⟩ := h; rw [e]; exact fun z => by cases z
  | rol ds => cases hm
  | dct ds => obtain ⟨xs, e, _⟩ := h; rw [e]; exact fun z => by cases z
  | rox ds =>
    obtain ⟨o, ⟨ks, e, _⟩ | ⟨es, _, e, _⟩⟩ := h
    · rw [e]; exact fun z => by cases z
    · rw [e]; exact fun z => by cases z
  | dcx ds =>
    rcases h with ⟨ks, e, _⟩ | ⟨es, _, _, _, e, _⟩
    · rw [e]; exact fun z => by cases z
    · rw [e]; exact fun z => by cases z
theorem Ext.new {p : Addr} {o : HO} (hp : H p = none) : Ext K φ H φ (upd H p o) := ⟨fun _ _ h => h, fun _ _ h => SqT.fresh hp h, fun _ _ _ h => by rw [upd_ne (ne_of_none h hp)]; exact h⟩
theorem Ext.put {p : Addr} {u o : HO} (hp : H p = some u) (hu : NoTup u) : Ext K φ H φ (upd H p o) := ⟨fun _ _ h => h, fun _ _ h => SqT.write hp hu h, fun _ _ _ h => by rw [upd_ne (ne_of h hp fun z => hu.2 _ _ z.symm)]; exact h⟩
theorem Ext.newC {p : Addr} {o : HO} (hp : H p = none) : Ext K φ H (φ ++ [p]) (upd H p o) :=
  ⟨fun n a h => by rw [List.getElem?_append_left (by have := List.getElem?_eq_some_iff.mp h; exact this.1)]; exact h, fun _ _ h => SqT.fresh hp h, fun _ _ _ h => by rw [upd_ne (ne_of_none h hp)]; exact h⟩
theorem RC.keep {c : Cell} {a : Addr} (x : Ext K φ H φ' H') (e : ∀ o, H a = some o → (c.mut = false → ∃ u xs, o = .frz u xs) → H' a = some o) (h : RC K H φ c a) : RC K H' φ' c a := by
  cases c with
  | lst ds => obtain ⟨xs, q, r⟩ := h; exact ⟨xs, e _ q (fun z => by cases z), r.mono x⟩
  | rol ds =>
    obtain ⟨xs, q, r⟩ := h
    refine ⟨xs, ?_, r.mono x⟩
    rcases q with ⟨o, q⟩ | q
    · exact .inl ⟨o, e _ q fun _ => ⟨o, _, rfl⟩⟩
    · exact .inr q
  | dct ds => obtain ⟨xs, q, r⟩ := h; exact ⟨xs, e _ q (fun z => by cases z), r.mono x⟩
  | rox ds =>
    obtain ⟨o, ⟨ks, q, r⟩ | ⟨es, h1, q, r⟩⟩ := h
    · exact ⟨o, .inl ⟨ks, e _ q (fun _ => ⟨o, _, rfl⟩), RKi.mono x _ _ r⟩⟩
    · exact ⟨o, .inr ⟨es, h1, e _ q (fun _ => ⟨o, _, rfl⟩), RKx.mono x _ _ r⟩⟩
  | dcx ds =>
    rcases h with ⟨ks, q, r⟩ | ⟨es, h1, h2, h3, q, r⟩
    · exact .inl ⟨ks, e _ q (fun z => by cases z), RKi.mono x _ _ r⟩
    · exact .inr ⟨es, h1, h2, h3, e _ q (fun z => by cases z), RKx.mono x _ _ r⟩
theorem RS.at {S : Store} (r : RS K H φ S) {n : Nat} {c : Cell} (e : S[n]? = some c) : ∃ a, φ[n]? = some a ∧ RC K H φ c a := by
  have hn : n < φ.length := by rw [r.len]; exact (List.getElem?_eq_some_iff.mp e).1
  exact ⟨φ[n], List.getElem?_eq_getElem hn, r.cell n c _ e (List.getElem?_eq_getElem hn)⟩
/-- a tuple is made -/
theorem RS.new {S : Store} (r : RS K H φ S) {p : Addr} {o : HO} (hp : H p = none) : RS K (upd H p o) φ S :=
  ⟨r.len, r.nd, fun n c a h1 h2 => (r.cell n c a h1 h2).keep (Ext.new hp) fun u hu _ => by rw [upd_ne (ne_of_none hu hp)]; exact hu⟩
/-- a cell is made -/
theorem RS.newC {S : Store} (r : RS K H φ S) {p : Addr} {o : HO} {c : Cell} (hp : H p = none) (hc : RC K (upd H p o) (φ ++ [p]) c p) : RS K (upd H p o) (φ ++ [p]) (S ++ [c]) := by
  have old : ∀ (n : Nat) (c' : Cell) (a : Addr), (S ++ [c])[n]? = some c' → (φ ++ [p])[n]? = some a → (S[n]? = some c' ∧ φ[n]? = some a) ∨ (n = S.length ∧ c' = c ∧ a = p) := fun n c' a h1 h2 => by
    by_cases hn : n < S.length
    · rw [List.getElem?_append_left hn] at h1
      rw [List.getElem?_append_left (by rw [r.len]; exact hn)] at h2
      exact .inl ⟨h1, h2⟩
    · have hn2 : n = S.length := by
        have := (List.getElem?_eq_some_iff.mp h1).1
        rw [List.length_append] at this
        have h3 : ([c] : List Cell).length = 1 := rfl
        omega
      subst hn2
      rw [List.getElem?_append_right (Nat.le_refl _), Nat.sub_self] at h1
      rw [← r.len, List.getElem?_append_right (Nat.le_refl _), Nat.sub_self] at h2
      exact .inr ⟨rfl, by simpa using h1.symm, by simpa using h2.symm⟩
  refine ⟨by rw [List.length_append, List.length_append, r.len]; rfl, fun m n a c1 c2 h1 h2 h3 h4 m1 m2 => ?_, fun n c' a h1 h2 => ?_⟩
  · rcases old m c1 a h1 h3 with ⟨q1, q3⟩ | ⟨q1, q2, q3⟩
    · rcases old n c2 a h2 h4 with ⟨w1, w3⟩ | ⟨w1, w2, w3⟩
      · exact r.nd m n a c1 c2 q1 w1 q3 w3 m1 m2
      · subst w3; exact ((r.cell m c1 a q1 q3).tracked m1 hp).elim
    · rcases old n c2 a h2 h4 with ⟨w1, w3⟩ | ⟨w1, w2, w3⟩
      · subst q3; exact ((r.cell n c2 a w1 w3).tracked m2 hp).elim
      · rw [q1, w1]
  · rcases old n c' a h1 h2 with ⟨q1, q2⟩ | ⟨q1, q2, q3⟩
    · exact (r.cell n c' a q1 q2).keep (Ext.newC hp) fun u hu _ => by rw [upd_ne (ne_of_none hu hp)]; exact hu
    · subst q2 q3; exact hc
/-- a cell is changed -/
theorem RS.writeG {S : Store} (r : RS K H φ S) {n : Nat} {a : Addr} {u o : HO} {c0 c' : Cell} (h0 : S[n]? = some c0) (hm0 : c0.mut = true) (hm' : c'.mut = true) (hn : φ[n]? = some a) (ha : H a = some u) (hu : NoTup u) (hc : RC K (upd H a o) φ c' a) :
    RS K (upd H a o) φ (S.set n c') ∧ Ext K φ H φ (upd H a o) := by
  have x : Ext K φ H φ (upd H a o) := Ext.put ha hu
  have hl : n < S.length := (List.getElem?_eq_some_iff.mp h0).1
  have back : ∀ (m : Nat) (c : Cell), (S.set n c')[m]? = some c → ∃ d, S[m]? = some d ∧ (m ≠ n → d = c) ∧ (m = n → c = c') ∧ (c.mut = true → d.mut = true) := fun m c h => by
    by_cases hm : n = m
    · subst hm
      rw [List.getElem?_set_self hl] at h
      cases h
      exact ⟨c0, h0, fun z => (z rfl).elim, fun _ => rfl, fun _ => hm0⟩
    · rw [List.getElem?_set_ne hm] at h
      exact ⟨c, h, fun _ => rfl, fun z => (hm z.symm).elim, fun z => z⟩
  refine ⟨⟨by rw [r.len, List.length_set], fun m1 m2 b c1 c2 h1 h2 h3 h4 q1 q2 => ?_, fun m c b h1 h2 => ?_⟩, x⟩
  · obtain ⟨d1, e1, _, _, f1⟩ := back m1 c1 h1
    obtain ⟨d2, e2, _, _, f2⟩ := back m2 c2 h2
    exact r.nd m1 m2 b d1 d2 e1 e2 h3 h4 (f1 q1) (f2 q2)
  · obtain ⟨d, e, f1, f2, _⟩ := back m c h1
    by_cases hm : m = n
    · have := f2 hm
      subst this hm
      rw [hn] at h2; cases h2
      exact hc
    · have := f1 hm
      subst this
      refine (r.cell m d b e h2).keep x fun v hv hz => ?_
      rw [upd_ne (fun z => ?_)]
      · exact hv
      · subst z
        cases hd : d.mut with
        | true => exact hm (r.nd m n b d c0 e h0 h2 hn hd hm0)
        | false =>
          obtain ⟨w, xs, rfl⟩ := hz hd
          rw [ha] at hv; cases hv
          exact hu.2 _ _ rfl
theorem RS.write {S : Store} (r : RS K H φ S) {n : Nat} {a : Addr} {xs : List V} {es : List D} {ys : List V} {ds : List D} (h0 : S[n]? = some (.lst ds)) (hn : φ[n]? = some a) (ha : H a = some (.lst xs)) (he : RDs K H φ es ys) :
    RS K (upd H a (.lst ys)) φ (S.set n (.lst es)) ∧ Ext K φ H φ (upd H a (.lst ys)) :=
  r.writeG h0 rfl rfl hn ha NoTup.lst ⟨ys, upd_same, he.mono (Ext.put ha NoTup.lst)⟩
end
end RL

namespace RL
open PySem PySem.Spec PyProof.Rows L2

/-! ### what a run gives, and what is wanted of it -/
def LK {α : Type} (X : Cx) (W : WX) (σ : L2.St) (φ : List Addr) (H : Hp) (r : Res α) (P : α → Store → List Addr → Hp → Prop) : Prop :=
  match r with
  | .ok a S' => ∀ φ' H', Ext X.K φ H φ' H' → RS X.K H' φ' S' → P a S' φ' H'
  | .exn x S' => ∀ φ' H' cls dd, Ext X.K φ H φ' H' → RS X.K H' φ' S' → RX X.K H' φ' X.mg x cls dd → W cls dd σ H'
  | .bad => False
def LE (X : Cx) (W : WX) (m : ME) : TE := fun σ H Q => ∃ φ ρ S, RE X.K H φ ρ σ ∧ RS X.K H φ S ∧ LK X W σ φ H (m ρ S) fun d _ φ' H' => ∀ v, RD X.K H' φ' d v → Q v H'
def LT (X : Cx) (W : WX) (m : MT) : TT := fun σ H Q => ∃ φ ρ S, RE X.K H φ ρ σ ∧ RS X.K H φ S ∧ LK X W σ φ H (m ρ S) fun b _ _ H' => Q b H'
def LA (X : Cx) (W : WX) (m : MA) : TA := fun σ H Q => ∃ φ ρ S, RE X.K H φ ρ σ ∧ RS X.K H φ S ∧ LK X W σ φ H (m ρ S) fun ds _ φ' H' => ∀ vs, RDs X.K H' φ' ds vs → Q vs H'
def LKS (X : Cx) (W : WX) (φ : List Addr) (H : Hp) (r : SRes) (D : Ends) : Prop :=
  match r with
  | .next ρ' S' => ∀ φ' H' σ', Ext X.K φ H φ' H' → RS X.K H' φ' S' → RE X.K H' φ' ρ' σ' → D.nx σ' H'
  | .brk ρ' S' => ∀ φ' H' σ', Ext X.K φ H φ' H' → RS X.K H' φ' S' → RE X.K H' φ' ρ' σ' → D.bk σ' H'
  | .cont ρ' S' => ∀ φ' H' σ', Ext X.K φ H φ' H' → RS X.K H' φ' S' → RE X.K H' φ' ρ' σ' → D.ct σ' H'
  | .ret d S' => ∀ φ' H' v, Ext X.K φ H φ' H' → RS X.K H' φ' S' → RD X.K H' φ' d v → D.rt v H'
  | .exn x ρ' S' => ∀ φ' H' σ' cls dd, Ext X.K φ H φ' H' → RS X.K H' φ' S' → RE X.K H' φ' ρ' σ' → RX X.K H' φ' X.mg x cls dd → W cls dd σ' H'
  | .bad => False
def LS (X : Cx) (W : WX) (m : MS) : TS := fun D σ H => ∃ φ ρ S, RE X.K H φ ρ σ ∧ RS X.K H φ S ∧ LKS X W φ H (m ρ S) D
/-- the judgements -/
abbrev SE (X : Cx) (W : WX) (e : Expr) (m : ME) : Prop := PE X e (LE X W m)
abbrev ST (X : Cx) (W : WX) (e : Expr) (m : MT) : Prop := PT X e (LT X W m)
abbrev SW (X : Cx) (W : WX) (e : Expr) (m : MT) : Prop := PW X e (LT X W m)
abbrev SA (X : Cx) (W : WX) (es : List Expr) (m : MA) : Prop := PA X es (LA X W m)
abbrev SS (X : Cx) (W : WX) (st : Stmt) (m : MS) : Prop := PS X st (LS X W m)
abbrev SSs (X : Cx) (W : WX) (st : List Stmt) (m : MS) : Prop := PSs X st (LS X W m)
/-- what the rules lean on -/
structure Ctx (X : Cx) (W : WX) (k : Nat) : Prop where
  hr : Room k X.A
  tk : Takes X W
  calm : X.calm = true
  nd : X.N.Nodup
  gu : X.A.guards = some []
  po : PassesOwn (model X.prog X.w) X.A X.env X.xe
theorem _root_.L2.PE.imp {X : Cx} {e : Expr} {t t' : TE} (h : PE X e t) (i : ∀ σ H Q, t' σ H Q → t σ H Q) : PE X e t' := ⟨fun pins s σ H Q I q => h.run pins s σ H Q I (i σ H Q q)⟩
theorem _root_.L2.PT.imp {X : Cx} {e : Expr} {t t' : TT} (h : PT X e t) (i : ∀ σ H Q, t' σ H Q → t σ H Q) : PT X e t' := ⟨fun pins s σ H Q I q => h.run pins s σ H Q I (i σ H Q q)⟩
theorem _root_.L2.PW.imp {X : Cx} {e : Expr} {t t' : TT} (h : PW X e t) (i : ∀ σ H Q, t' σ H Q → t σ H Q) : PW X e t' := ⟨fun wh pins s σ H Q I q => h.run wh pins s σ H Q I (i σ H Q q)⟩
theorem _root_.L2.PA.imp {X : Cx} {e : List Expr} {t t' : TA} (h : PA X e t) (i : ∀ σ H Q, t' σ H Q → t σ H Q) : PA X e t' := ⟨fun pos pins s σ H Q I q => h.run pos pins s σ H Q I (i σ H Q q)⟩
theorem _root_.L2.PS.imp {X : Cx} {e : Stmt} {t t' : TS} (h : PS X e t) (i : ∀ D σ H, t' D σ H → t D σ H) : PS X e t' := ⟨fun pins s σ H D I q => h.run pins s σ H D I (i D σ H q)⟩
theorem _root_.L2.PSs.imp {X : Cx} {e : List Stmt} {t t' : TS} (h : PSs X e t) (i : ∀ D σ H, t' D σ H → t D σ H) : PSs X e t' := ⟨fun pins s σ H D I q => h.run pins s σ H D I (i D σ H q)⟩

section
variable {X : Cx} {W : WX} {σ : L2.St} {φ φ' : List Addr} {H H' : Hp} {α β : Type}
theorem LK.from {r : Res α} {P : α → Store → List Addr → Hp → Prop} (x : Ext X.K φ H φ' H') (h : LK X W σ φ H r P) : LK X W σ φ' H' r P := by
  cases r with
  | ok a S => exact fun φ2 H2 y => h φ2 H2 (x.trans y)
  | exn e S => exact fun φ2 H2 c d y => h φ2 H2 c d (x.trans y)
  | bad => exact h
theorem LK.mono {r : Res α} {P P' : α → Store → List Addr → Hp → Prop} (h : LK X W σ φ H r P) (i : ∀ a S φ' H', Ext X.K φ H φ' H' → RS X.K H' φ' S → P a S φ' H' → P' a S φ' H') : LK X W σ φ H r P' := by
  cases r with
  | ok a S => exact fun φ2 H2 y z => i a S φ2 H2 y z (h φ2 H2 y z)
  | exn e S => exact h
  | bad => exact h
theorem LK.bind {r : Res α} {f : α → Store → Res β} {P : β → Store → List Addr → Hp → Prop} (h : LK X W σ φ H (r.bind f) P) :
    LK X W σ φ H r fun a S φ' H' => LK X W σ φ' H' (f a S) P := by
  cases r with
  | ok a S => exact fun φ2 H2 y z => LK.from y h
  | exn e S => exact h
  | bad => exact h
theorem LKS.from {r : SRes} {D : Ends} (x : Ext X.K φ H φ' H') (h : LKS X W φ H r D) : LKS X W φ' H' r D := by
  cases r with
  | next a S => exact fun φ2 H2 s y => h φ2 H2 s (x.trans y)
  | brk a S => exact fun φ2 H2 s y => h φ2 H2 s (x.trans y)
  | cont a S => exact fun φ2 H2 s y => h φ2 H2 s (x.trans y)
  | ret a S => exact fun φ2 H2 s y => h φ2 H2 s (x.trans y)
  | exn a b S => exact fun φ2 H2 s c d y => h φ2 H2 s c d (x.trans y)
  | bad => exact h
/-- run an expression, go on with the rest -/
theorem LE.to {ρ : Env} {S : Store} {ma : ME} {f : D → Store → Res β} {P : β → Store → List Addr → Hp → Prop} {Q : VK} (re : RE X.K H φ ρ σ) (rs : RS X.K H φ S) (h : LK X W σ φ H ((ma ρ S).bind f) P)
    (q : ∀ d S1 φ1 H1 v, Ext X.K φ H φ1 H1 → RS X.K H1 φ1 S1 → RE X.K H1 φ1 ρ σ → RD X.K H1 φ1 d v → LK X W σ φ1 H1 (f d S1) P → Q v H1) : LE X W ma σ H Q :=
  ⟨φ, ρ, S, re, rs, (LK.bind h).mono fun d S1 φ1 H1 x z k v rd => q d S1 φ1 H1 v x z (re.mono x) rd k⟩
theorem LT.to {ρ : Env} {S : Store} {ma : MT} {f : Bool → Store → Res β} {P : β → Store → List Addr → Hp → Prop} {Q : Bool → Hp → Prop} (re : RE X.K H φ ρ σ) (rs : RS X.K H φ S) (h : LK X W σ φ H ((ma ρ S).bind f) P)
    (q : ∀ d S1 φ1 H1, Ext X.K φ H φ1 H1 → RS X.K H1 φ1 S1 → RE X.K H1 φ1 ρ σ → LK X W σ φ1 H1 (f d S1) P → Q d H1) : LT X W ma σ H Q :=
  ⟨φ, ρ, S, re, rs, (LK.bind h).mono fun d S1 φ1 H1 x z k => q d S1 φ1 H1 x z (re.mono x) k⟩
theorem LA.to {ρ : Env} {S : Store} {ma : MA} {f : List D → Store → Res β} {P : β → Store → List Addr → Hp → Prop} {Q : List V → Hp → Prop} (re : RE X.K H φ ρ σ) (rs : RS X.K H φ S) (h : LK X W σ φ H ((ma ρ S).bind f) P)
    (q : ∀ d S1 φ1 H1 v, Ext X.K φ H φ1 H1 → RS X.K H1 φ1 S1 → RE X.K H1 φ1 ρ σ → RDs X.K H1 φ1 d v → LK X W σ φ1 H1 (f d S1) P → Q v H1) : LA X W ma σ H Q :=
  ⟨φ, ρ, S, re, rs, (LK.bind h).mono fun d S1 φ1 H1 x z k v rd => q d S1 φ1 H1 v x z (re.mono x) rd k⟩
theorem LK.ok {a : α} {S : Store} {P : α → Store → List Addr → Hp → Prop} (h : LK X W σ φ H (.ok a S) P) (rs : RS X.K H φ S) : P a S φ H := h φ H Ext.refl rs
end

/-! ### names, constants -/
def eVar (i : Nat) : ME := fun ρ S => match ρ[i]? with
  | some (some d) => .ok d S
  | _ => .bad
def eC (d : D) : ME := fun _ S => .ok d S
section
variable {X : Cx} {W : WX} {a b c : Expr} {pos p : Pos} {ma mb mc : ME} {k : Nat}
theorem se_var (i : Nat) {x : Str} (hN : X.N[i]? = some x := by rfl) (hv : Vis X.env.scope x := by first | exact Or.inl rfl | exact Or.inr (Or.inl rfl) | exact Or.inr (Or.inr rfl)) (hd : (x == ("__debug__" : Str)) = false := by decide)
    (hcd : (x == ("__classdict__" : Str)) = false := by decide) : SE X W (.Name x pos) (eVar i) := by
  refine (pe_var hN hv hd hcd).imp fun σ H Q => ?_
  rintro ⟨φ, ρ, S, re, rs, h⟩
  unfold eVar at h
  split at h
  · rename_i d e
    obtain ⟨v, h1, h2⟩ := re.get e
    exact ⟨v, h1, h.ok rs v h2⟩
  · exact h.elim
theorem se_c {v : V} {d : D} (h : PE X a (tC v)) (r : ∀ K H φ, RD K H φ d v := by intro _ _ _; unfold RD; rfl) : SE X W a (eC d) := by
  refine h.imp fun σ H Q => ?_
  rintro ⟨φ, ρ, S, re, rs, h⟩
  exact h.ok rs v (r _ _ _)
theorem se_int {i : Int} {j} : SE X W (.Constant (.int i) j pos) (eC (.int i)) := se_c pe_int
theorem se_bl {i : Bool} {j} : SE X W (.Constant (.bool i) j pos) (eC (.bl i)) := se_c pe_bl
theorem se_non {j} : SE X W (.Constant .none j pos) (eC .non) := se_c pe_non
theorem se_str {i : Str} {j} : SE X W (.Constant (.str i) j pos) (eC (.str i)) := se_c pe_str

/-! ### operators -/
def eBin (f : D → D → Store → Res D) (ma mb : ME) : ME := fun ρ S => (ma ρ S).bind fun x S1 => (mb ρ S1).bind fun y S2 => f x y S2
/-- an abstract operator is what the rule's reading asks -/
def OpD (X : Cx) (r : R2) (f : D → D → Store → Res D) : Prop := ∀ (W : WX) (σ : L2.St) (φ : List Addr) (H : Hp) (S : Store) (x y : D) (vx vy : V) (Q : VK), RS X.K H φ S → RD X.K H φ x vx → RD X.K H φ y vy →
  LK X W σ φ H (f x y S) (fun d _ φ' H' => ∀ v, RD X.K H' φ' d v → Q v H') → r vx vy H Q
theorem eBin.to {r : R2} {f : D → D → Store → Res D} (hd : OpD X r f) {σ : L2.St} {H : Hp} {Q : VK} (h : LE X W (eBin f ma mb) σ H Q) : tOp r (LE X W ma) (LE X W mb) σ H Q := by
  obtain ⟨φ, ρ, S, re, rs, h⟩ := h
  exact LE.to re rs h fun x S1 φ1 H1 vx x1 rs1 re1 rx h1 => LE.to re1 rs1 h1 fun y S2 φ2 H2 vy x2 rs2 re2 ry h2 => hd W σ φ2 H2 S2 x y vx vy Q rs2 (rx.mono x2) ry h2
theorem se_op {op : Operator} {r : R2} {f : D → D → Store → Res D} (ho : OpR X (binaryOp op) r) (hd : OpD X r f) (ha : SE X W a ma) (hb : SE X W b mb) : SE X W (.BinOp a op b pos) (eBin f ma mb) :=
  (pe_op ho ha hb).imp fun _ _ _ h => eBin.to hd h
theorem se_cmp {op : CmpOp} {r : R2} {f : D → D → Store → Res D} (ho : OpR X (compareOp op) r) (hd : OpD X r f) (ha : SE X W a ma) (hb : SE X W b mb) (hm : behindInMarks op b = false := by rfl) : SE X W (.Compare a [op] [b] pos) (eBin f ma mb) :=
  (pe_cmpR ho ha hb hm).imp fun _ _ _ h => eBin.to hd h
/-- a test: a value that is a bool -/
def tOf (m : ME) : MT := fun ρ S => (m ρ S).bind fun x S1 => match x with
  | .bl c => .ok c S1
  | _ => .bad
theorem st_cmp {op : CmpOp} {r : R2} {f : D → D → Store → Res D} (ho : OpR X (compareOp op) r) (hd : OpD X r f) (ha : SE X W a ma) (hb : SE X W b mb) (hm : behindInMarks op b = false := by rfl) : ST X W (.Compare a [op] [b] pos) (tOf (eBin f ma mb)) := by
  refine (pt_cmpR ho ha hb hm).imp fun σ H Q h => ?_
  obtain ⟨φ, ρ, S, re, rs, h⟩ := h
  refine eBin.to hd ⟨φ, ρ, S, re, rs, (LK.bind h).mono fun d S1 φ1 H1 x1 rs1 k v rd => ?_⟩
  split at k
  · unfold RD at rd
    exact ⟨_, rd, k.ok rs1⟩
  · exact k.elim
/-- any value as a test that is a bool -/
theorem st_val (ha : SE X W a ma) (he : ∀ whole, isTrue a X.env whole = (do let v ← whole; standAt a.pos; holding [v] (truthy v)) := by intro _; rfl) : ST X W a (tOf ma) := by
  refine (pt_val ha he).imp fun σ H Q h => ?_
  obtain ⟨φ, ρ, S, re, rs, h⟩ := h
  refine LE.to re rs h fun d S1 φ1 H1 v x1 rs1 re1 rd k => ?_
  split at k
  · unfold RD at rd
    exact ⟨_, rd, k.ok rs1⟩
  · exact k.elim
def tNotM (m : MT) : MT := fun ρ S => (m ρ S).bind fun c S1 => .ok (!c) S1
theorem st_not {m : MT} (ha : ST X W a m) : ST X W (.UnaryOp .Not a pos) (tNotM m) := by
  refine (pt_not ha).imp fun σ H Q h => ?_
  obtain ⟨φ, ρ, S, re, rs, h⟩ := h
  exact LT.to re rs h fun d S1 φ1 H1 x1 rs1 re1 k => k.ok rs1
def tAndM (m n : MT) : MT := fun ρ S => (m ρ S).bind fun c S1 => if c then n ρ S1 else .ok false S1
def tOrM (m n : MT) : MT := fun ρ S => (m ρ S).bind fun c S1 => if c then .ok true S1 else n ρ S1
section
variable {rest : List Expr} {m n : MT}
theorem LT.go {ρ : Env} {S : Store} {σ : L2.St} {φ : List Addr} {H : Hp} {m : MT} {Q : Bool → Hp → Prop} (re : RE X.K H φ ρ σ) (rs : RS X.K H φ S) (h : LK X W σ φ H (m ρ S) fun b _ _ H' => Q b H') : LT X W m σ H Q := ⟨φ, ρ, S, re, rs, h⟩
theorem sw_and1 (ha : ST X W a m) : SW X W (.BoolOp .And [a] pos) m := pw_and1 ha
theorem sw_or1 (ha : ST X W a m) : SW X W (.BoolOp .Or [a] pos) m := pw_or1 ha
theorem sw_and (ha : ST X W a m) (hb : SW X W (.BoolOp .And (b :: rest) pos) n) : SW X W (.BoolOp .And (a :: b :: rest) pos) (tAndM m n) := by
  refine (pw_and ha hb).imp fun σ H Q h => ?_
  obtain ⟨φ, ρ, S, re, rs, h⟩ := h
  refine LT.to re rs h fun d S1 φ1 H1 x1 rs1 re1 k => ?_
  cases d with
  | true => exact iteT (LT.go re1 rs1 k)
  | false => exact iteF (k.ok rs1)
theorem sw_or (ha : ST X W a m) (hb : SW X W (.BoolOp .Or (b :: rest) pos) n) : SW X W (.BoolOp .Or (a :: b :: rest) pos) (tOrM m n) := by
  refine (pw_or ha hb).imp fun σ H Q h => ?_
  obtain ⟨φ, ρ, S, re, rs, h⟩ := h
  refine LT.to re rs h fun d S1 φ1 H1 x1 rs1 re1 k => ?_
  cases d with
  | true => exact iteT (k.ok rs1)
  | false => exact iteF (LT.go re1 rs1 k)
theorem st_w (h : SW X W a m) : ST X W a m := h.pt
end
/-- and, or, not as values: bools -/
def eAndV (ma mb : ME) : ME := fun ρ S => (ma ρ S).bind fun x S1 => match x with
  | .bl true => mb ρ S1
  | .bl false => .ok (.bl false) S1
  | _ => .bad
def eOrV (ma mb : ME) : ME := fun ρ S => (ma ρ S).bind fun x S1 => match x with
  | .bl false => mb ρ S1
  | .bl true => .ok (.bl true) S1
  | _ => .bad
def eNotV (ma : ME) : ME := fun ρ S => (ma ρ S).bind fun x S1 => match x with
  | .bl c => .ok (.bl (!c)) S1
  | _ => .bad
theorem rd_bl {K : PySem.W.Frag} {H : Hp} {φ : List Addr} {b : Bool} : RD K H φ (.bl b) (.bl b) := by unfold RD; rfl
theorem rd_int {K : PySem.W.Frag} {H : Hp} {φ : List Addr} {b : Int} : RD K H φ (.int b) (.int b) := by unfold RD; rfl
theorem rd_str {K : PySem.W.Frag} {H : Hp} {φ : List Addr} {b : Str} : RD K H φ (.str b) (.str b) := by unfold RD; rfl
theorem rd_non {K : PySem.W.Frag} {H : Hp} {φ : List Addr} : RD K H φ .non .non := by unfold RD; rfl
section
variable {rest : List Expr}
theorem LE.go {ρ : Env} {S : Store} {σ : L2.St} {φ : List Addr} {H : Hp} {m : ME} {Q : VK} (re : RE X.K H φ ρ σ) (rs : RS X.K H φ S) (h : LK X W σ φ H (m ρ S) fun d _ φ' H' => ∀ v, RD X.K H' φ' d v → Q v H') : LE X W m σ H Q := ⟨φ, ρ, S, re, rs, h⟩
theorem se_one {op} (h : SE X W a ma) : SE X W (.BoolOp op [a] pos) ma := pe_one h
theorem se_and (ha : SE X W a ma) (hb : SE X W (.BoolOp .And (b :: rest) pos) mb) : SE X W (.BoolOp .And (a :: b :: rest) pos) (eAndV ma mb) := by
  refine (pe_and ha hb).imp fun σ H Q h => ?_
  obtain ⟨φ, ρ, S, re, rs, h⟩ := h
  refine LE.to re rs h fun d S1 φ1 H1 v x1 rs1 re1 rd k => ?_
  split at k
  · unfold RD at rd; exact ⟨true, rd, iteT (LE.go re1 rs1 k)⟩
  · unfold RD at rd; exact ⟨false, rd, iteF (k.ok rs1 _ rd_bl)⟩
  · exact k.elim
theorem se_or (ha : SE X W a ma) (hb : SE X W (.BoolOp .Or (b :: rest) pos) mb) : SE X W (.BoolOp .Or (a :: b :: rest) pos) (eOrV ma mb) := by
  refine (pe_or ha hb).imp fun σ H Q h => ?_
  obtain ⟨φ, ρ, S, re, rs, h⟩ := h
  refine LE.to re rs h fun d S1 φ1 H1 v x1 rs1 re1 rd k => ?_
  split at k
  · unfold RD at rd; exact ⟨false, rd, iteF (LE.go re1 rs1 k)⟩
  · unfold RD at rd; exact ⟨true, rd, iteT (k.ok rs1 _ rd_bl)⟩
  · exact k.elim
theorem se_not (ha : SE X W a ma) : SE X W (.UnaryOp .Not a pos) (eNotV ma) := by
  refine (pe_not ha).imp fun σ H Q h => ?_
  obtain ⟨φ, ρ, S, re, rs, h⟩ := h
  refine LE.to re rs h fun d S1 φ1 H1 v x1 rs1 re1 rd k => ?_
  split at k
  · unfold RD at rd; exact ⟨_, rd, k.ok rs1 _ rd_bl⟩
  · exact k.elim
end
def eIf (t : MT) (ma mb : ME) : ME := fun ρ S => (t ρ S).bind fun c S1 => if c then ma ρ S1 else mb ρ S1
theorem se_if {m : MT} (hc : ST X W c m) (ha : SE X W a ma) (hb : SE X W b mb) : SE X W (.IfExp c a b pos) (eIf m ma mb) := by
  refine (pe_ifExp hc ha hb).imp fun σ H Q h => ?_
  obtain ⟨φ, ρ, S, re, rs, h⟩ := h
  refine LT.to re rs h fun d S1 φ1 H1 x1 rs1 re1 k => ?_
  cases d with
  | true => exact iteT (LE.go re1 rs1 k)
  | false => exact iteF (LE.go re1 rs1 k)
def eChain (f g : D → D → Store → Res D) (ma mb mc : ME) : ME := fun ρ S => (ma ρ S).bind fun x S1 => (mb ρ S1).bind fun y S2 => (f x y S2).bind fun z S3 => match z with
  | .bl true => (mc ρ S3).bind fun w S4 => g y w S4
  | .bl false => .ok (.bl false) S3
  | _ => .bad
theorem se_chain {op op' : CmpOp} {r r' : R2} {f g : D → D → Store → Res D} (ho : OpR X (compareOp op) r) (hd : OpD X r f) (ho' : OpR X (compareOp op') r') (hd' : OpD X r' g) (ha : SE X W a ma) (hb : SE X W b mb) (hc : SE X W c mc)
    (hm : lastMarks [op, op'] [b, c] = false := by with_unfolding_all rfl) : SE X W (.Compare a [op, op'] [b, c] pos) (eChain f g ma mb mc) := by
  refine (pe_chain ho ho' ha hb hc hm).imp fun σ H Q h => ?_
  obtain ⟨φ, ρ, S, re, rs, h⟩ := h
  refine LE.to re rs h fun x S1 φ1 H1 vx x1 rs1 re1 rx h1 => LE.to re1 rs1 h1 fun y S2 φ2 H2 vy x2 rs2 re2 ry h2 => ?_
  refine hd W σ φ2 H2 S2 x y vx vy _ rs2 (rx.mono x2) ry ((LK.bind h2).mono fun z S3 φ3 H3 x3 rs3 k v rd => ?_)
  split at k
  · unfold RD at rd
    exact ⟨true, rd, iteT (LE.to (re2.mono x3) rs3 k fun w S4 φ4 H4 vw x4 rs4 re4 rw k4 => hd' W σ φ4 H4 S4 y w vy vw Q rs4 ((ry.mono x3).mono x4) rw k4)⟩
  · unfold RD at rd; exact ⟨false, rd, iteF (k.ok rs3 _ rd_bl)⟩
  · exact k.elim
end
end RL

namespace RL
open PySem PySem.Spec PyProof.Rows L2

/-! ### data, deep -/
def mapO {α β : Type} (f : α → Option β) : List α → Option (List β)
  | [] => some []
  | x :: xs => match f x, mapO f xs with
    | some y, some ys => some (y :: ys)
    | _, _ => none
def keyP : L2.Key → PyData
  | .inl i => .int i
  | .inr s => .str s
/-- what a value shows: all within it, to a depth -/
def deep (S : Store) : Nat → D → Option PyData
  | 0, _ => none
  | _ + 1, .non => some .none
  | _ + 1, .bl b => some (.bool b)
  | _ + 1, .int i => some (.int i)
  | _ + 1, .str s => some (.str s)
  | k + 1, .tup ds => (mapO (deep S k) ds).map PyData.tuple
  | k + 1, .ptr n => match S[n]? with
    | some (.lst ds) => (mapO (deep S k) ds).map PyData.list
    | some (.rol ds) => (mapO (deep S k) ds).map PyData.list
    | some (.dct kvs) => (mapO (fun kv => (deep S k kv.2).map fun v => (keyP kv.1, v)) kvs).map PyData.dict
    | some (.dcx _) => none
    | some (.rox _) => none
    | none => none
section
variable {K : PySem.W.Frag} {H : Hp} {φ : List Addr} {S : Store}
theorem RS.seqL (rs : RS K H φ S) {n : Nat} {ds : List D} (h : S[n]? = some (.lst ds) ∨ S[n]? = some (.rol ds)) : ∃ a xs, φ[n]? = some a ∧ SqL K H a xs ∧ RDs K H φ ds xs := by
  rcases h with h | h
  · obtain ⟨a, h1, xs, h2, h3⟩ := rs.at h
    exact ⟨a, xs, h1, .inl (.inl h2), h3⟩
  · obtain ⟨a, h1, xs, h2, h3⟩ := rs.at h
    rcases h2 with ⟨o, h2⟩ | h2
    · exact ⟨a, xs, h1, .inl (.inr ⟨o, h2⟩), h3⟩
    · exact ⟨a, xs, h1, .inr h2, h3⟩
theorem mapO_cons {α β : Type} {f : α → Option β} {x : α} {xs : List α} {zs : List β} (h : mapO f (x :: xs) = some zs) : ∃ y ys, f x = some y ∧ mapO f xs = some ys ∧ zs = y :: ys := by
  unfold mapO at h
  split at h
  · rename_i y ys h1 h2
    exact ⟨y, ys, h1, h2, (Option.some.inj h).symm⟩
  · cases h
theorem deep_dpAll (k : Nat) (ih : ∀ d v p, RD K H φ d v → deep S k d = some p → p.canLay0 = true → Dp K H v p) :
    ∀ (ds : List D) (vs : List V) (ps : List PyData), RDs K H φ ds vs → mapO (deep S k) ds = some ps → PyData.canLayAll0 ps = true → DpAll K H vs ps
  | [], vs, ps, r, e, c => by
    unfold RDs at r; unfold mapO at e
    cases e; subst r
    exact DpAll.nil
  | d :: ds, vs, ps, r, e, c => by
    unfold RDs at r
    obtain ⟨v, vs', rfl, r1, r2⟩ := r
    obtain ⟨y, ys, h1, h2, rfl⟩ := mapO_cons e
    unfold PyData.canLayAll0 at c
    simp only [Bool.and_eq_true] at c
    exact DpAll.cons (ih _ _ _ r1 h1 c.1) (deep_dpAll k ih ds vs' ys r2 h2 c.2)
theorem deep_dp (rs : RS K H φ S) : ∀ (k : Nat) (d : D) (v : V) (p : PyData), RD K H φ d v → deep S k d = some p → p.canLay0 = true → Dp K H v p
  | 0, _, _, _, _, e, _ => by unfold deep at e; cases e
  | k + 1, .non, v, p, r, e, c => by unfold deep at e; unfold RD at r; cases e; subst r; exact Dp.non
  | k + 1, .bl b, v, p, r, e, c => by unfold deep at e; unfold RD at r; cases e; subst r; exact Dp.bl b
  | k + 1, .int i, v, p, r, e, c => by unfold deep at e; unfold RD at r; cases e; subst r; exact Dp.int i
  | k + 1, .str i, v, p, r, e, c => by unfold deep at e; unfold RD at r; cases e; subst r; exact Dp.str i
  | k + 1, .tup ds, v, p, r, e, c => by
    unfold deep at e; unfold RD at r
    obtain ⟨a, xs, rfl, h1, h2⟩ := r
    cases hm : mapO (deep S k) ds with
    | none => rw [hm] at e; cases e
    | some ps =>
      rw [hm] at e; cases e
      exact Dp.tup h1 (deep_dpAll k (deep_dp rs k) ds xs ps h2 hm (by unfold PyData.canLay0 at c; exact c))
  | k + 1, .ptr n, v, p, r, e, c => by
    unfold deep at e; unfold RD at r
    obtain ⟨a, ha, rfl⟩ := r
    split at e
    · rename_i ds hS
      cases hm : mapO (deep S k) ds with
      | none => rw [hm] at e; cases e
      | some ps =>
        rw [hm] at e; cases e
        obtain ⟨a', xs, h0, h1, h2⟩ := rs.seqL (.inl hS)
        rw [ha] at h0; cases h0
        exact Dp.lst h1 (deep_dpAll k (deep_dp rs k) ds xs ps h2 hm (by unfold PyData.canLay0 at c; exact c))
    · rename_i ds hS
      cases hm : mapO (deep S k) ds with
      | none => rw [hm] at e; cases e
      | some ps =>
        rw [hm] at e; cases e
        obtain ⟨a', xs, h0, h1, h2⟩ := rs.seqL (.inr hS)
        rw [ha] at h0; cases h0
        exact Dp.lst h1 (deep_dpAll k (deep_dp rs k) ds xs ps h2 hm (by unfold PyData.canLay0 at c; exact c))
    · rename_i ds hS
      cases hm : mapO (fun kv : L2.Key × D => (deep S k kv.2).map fun v => (keyP kv.1, v)) ds with
      | none => rw [hm] at e; cases e
      | some ps =>
        rw [hm] at e; cases e
        unfold PyData.canLay0 at c; cases c
    · cases e
    · cases e
    · cases e
end

/-! ### operators, by values -/
def oAdd : D → D → Store → Res D
  | .int i, .int j, S => .ok (.int (i + j)) S
  | .str a, .str b, S => if a.length + b.length ≤ sizeLine then .ok (.str (a ++ b)) S else .bad
  | .tup a, .tup b, S => if a.length + b.length ≤ sizeLine then .ok (.tup (a ++ b)) S else .bad
  | .ptr n, .ptr m, S => match S[n]?, S[m]? with
    | some (.lst a), some (.lst b) => if a.length + b.length ≤ sizeLine then .ok (.ptr S.length) (S ++ [.lst (a ++ b)]) else .bad
    | _, _ => .bad
  | _, _, _ => .bad
def oSub : D → D → Store → Res D
  | .int i, .int j, S => .ok (.int (i - j)) S
  | _, _, _ => .bad
def oMul : D → D → Store → Res D
  | .int i, .int j, S => if (Builtin.Int.intBits i : Int) + (Builtin.Int.intBits j : Int) ≤ 134217728 then .ok (.int (i * j)) S else .bad
  | .ptr n, .int k, S => match S[n]? with
    | some (.lst a) => if -(2 ^ 63) ≤ k ∧ k < 2 ^ 63 ∧ a.length * k.toNat ≤ sizeLine then .ok (.ptr S.length) (S ++ [.lst (List.replicate k.toNat a).flatten]) else .bad
    | _ => .bad
  | .tup xs, .int k, S => if xs.isEmpty = false ∧ 2 ≤ k ∧ k ≤ 1000 ∧ xs.length ≤ 1000 then .ok (.tup (List.replicate k.toNat xs).flatten) S else .bad
  | _, _, _ => .bad
def oMod : D → D → Store → Res D
  | .int i, .int j, S => if 0 < j then .ok (.int (i % j)) S else .bad
  | _, _, _ => .bad
def oDiv : D → D → Store → Res D
  | .int i, .int j, S => if 0 < j ∧ j.natAbs.log2 < 9000 then .ok (.int (i / j)) S else .bad
  | _, _, _ => .bad
def oPow : D → D → Store → Res D
  | .int i, .int j, S => if 0 ≤ j ∧ j ≤ 1000000 ∧ i.natAbs < 2 ^ 64 then .ok (.int (i ^ j.toNat)) S else .bad
  | _, _, _ => .bad
def intsOf : List D → Option (List Int)
  | [] => some []
  | .int i :: r => match intsOf r with
    | some ns => some (i :: ns)
    | none => none
  | _ => none
def oLt : D → D → Store → Res D
  | .int i, .int j, S => .ok (.bl (decide (i < j))) S
  | .tup xs, .tup ys, S => match intsOf xs, intsOf ys with
    | some ns, some ms => .ok (.bl (HT.lexLt ns ms)) S
    | _, _ => .bad
  | _, _, _ => .bad
def oLe : D → D → Store → Res D
  | .int i, .int j, S => .ok (.bl (decide (i ≤ j))) S
  | _, _, _ => .bad
def oGt : D → D → Store → Res D
  | .int i, .int j, S => .ok (.bl (decide (j < i))) S
  | _, _, _ => .bad
def oGe : D → D → Store → Res D
  | .int i, .int j, S => .ok (.bl (decide (j ≤ i))) S
  | _, _, _ => .bad
def oIs : D → D → Store → Res D
  | .non, .non, S => .ok (.bl true) S
  | _, .non, S => .ok (.bl false) S
  | _, _, _ => .bad
def oIsNot : D → D → Store → Res D
  | .non, .non, S => .ok (.bl false) S
  | _, .non, S => .ok (.bl true) S
  | _, _, _ => .bad
def deepLine : Nat := 40
def oEqD (x y : D) (S : Store) : Res D := match deep S deepLine x, deep S deepLine y with
  | some d, some e => if SeqAt.shaped d = true ∧ SeqAt.shaped e = true then .ok (.bl (PyData.eqv d e)) S else .bad
  | _, _ => .bad
def oNeD (x y : D) (S : Store) : Res D := match deep S deepLine x, deep S deepLine y with
  | some d, some e => if SeqAt.shaped d = true ∧ SeqAt.shaped e = true then .ok (.bl (!PyData.eqv d e)) S else .bad
  | _, _ => .bad
def oEq : D → D → Store → Res D
  | .str a, .str b, S => .ok (.bl (a == b)) S
  | x, y, S => oEqD x y S
def oNe : D → D → Store → Res D
  | .str a, .str b, S => .ok (.bl (!(a == b))) S
  | x, y, S => oNeD x y S
def rEqAll (K : PySem.W.Frag) : R2 := fun x y H Q => rEqD K x y H Q ∨ rEq x y H Q
def rNeAll (K : PySem.W.Frag) : R2 := fun x y H Q => rNeD K x y H Q ∨ rNe x y H Q
theorem op_eqA {X : Cx} (hu : X.A.units + 64 < cLine) : OpR X (compareOp .Eq) (rEqAll X.K) := OpR.or (op_eqD hu) op_eq
theorem op_neA {X : Cx} (hu : X.A.units + 64 < cLine) : OpR X (compareOp .NotEq) (rNeAll X.K) := OpR.or (op_neD hu) op_ne

section
variable {X : Cx}
theorem od_new {K : PySem.W.Frag} {H : Hp} {φ : List Addr} {ds : List D} {xs : List V} {p : Addr} (r : RDs K H φ ds xs) (hp : H p = none) : RD K (upd H p (.tup xs)) φ (.tup ds) (.ref p) := by
  unfold RD
  exact ⟨p, xs, rfl, .inl (.inl upd_same), r.mono (Ext.new hp)⟩
theorem od_newC {K : PySem.W.Frag} {H : Hp} {φ : List Addr} {S : Store} {ds : List D} {xs : List V} {p : Addr} (rs : RS K H φ S) (r : RDs K H φ ds xs) (hp : H p = none) :
    RS K (upd H p (.lst xs)) (φ ++ [p]) (S ++ [.lst ds]) ∧ Ext K φ H (φ ++ [p]) (upd H p (.lst xs)) ∧ RD K (upd H p (.lst xs)) (φ ++ [p]) (.ptr S.length) (.ref p) := by
  refine ⟨rs.newC hp ⟨xs, upd_same, r.mono (Ext.newC hp)⟩, Ext.newC hp, ?_⟩
  unfold RD
  exact ⟨p, by rw [← rs.len, List.getElem?_append_right (Nat.le_refl _), Nat.sub_self]; rfl, rfl⟩
theorem od_I0 {g : Int → Int → V} {f : D → D → Store → Res D} (gd : Int → Int → D) (hg : ∀ i j K H φ, RD K H φ (gd i j) (g i j)) (hf : ∀ i j S, f (.int i) (.int j) S = .ok (gd i j) S) (hb : ∀ x y S, (∀ i j, ¬ (x = .int i ∧ y = .int j)) → f x y S = .bad) : OpD X (rI0 g) f := by
  intro W σ φ H S x y vx vy Q rs rx ry h
  by_cases hc : ∃ i j, x = .int i ∧ y = .int j
  · obtain ⟨i, j, rfl, rfl⟩ := hc
    unfold RD at rx ry
    rw [hf] at h
    exact ⟨i, j, rx, ry, h.ok rs _ (hg _ _ _ _ _)⟩
  · rw [hb x y S (fun i j z => hc ⟨i, j, z⟩)] at h
    exact h.elim
theorem intsOf_map : ∀ {xs : List D} {ns : List Int}, intsOf xs = some ns → xs = ns.map D.int
  | [], ns, h => by unfold intsOf at h; cases h; rfl
  | x :: xs, ns, h => by
    unfold intsOf at h
    split at h
    · rename_i e; cases e
    · rename_i i r e
      cases e
      split at h
      · rename_i ms hm
        cases h
        rw [intsOf_map hm]; rfl
      · cases h
    · cases h
theorem rds_intsV {K : PySem.W.Frag} {H : Hp} {φ : List Addr} : ∀ {ns : List Int} {vs : List V}, RDs K H φ (ns.map D.int) vs → vs = ns.map V.int
  | [], vs, h => by unfold RDs at h; exact h
  | n :: ns, vs, h => by
    rw [List.map_cons] at h
    unfold RDs at h
    obtain ⟨v, vs', rfl, r, t⟩ := h
    unfold RD at r
    rw [r, rds_intsV t]; rfl
def rLtAll (K : PySem.W.Frag) : R2 := fun x y H Q => rI0 (fun i j => .bl (decide (i < j))) x y H Q ∨ rLtT K x y H Q
theorem op_ltA (hu : X.A.units + 64 < cLine) : OpR X (compareOp .Lt) (rLtAll X.K) := OpR.or op_lt (op_ltT (by omega))
theorem od_lt : OpD X (rLtAll X.K) oLt := by
  intro W σ φ H S x y vx vy Q rs rx ry h
  unfold oLt at h
  split at h
  · unfold RD at rx ry
    exact .inl ⟨_, _, rx, ry, h.ok rs _ rd_bl⟩
  · unfold RD at rx ry
    obtain ⟨a, as, rfl, ha, ra⟩ := rx
    obtain ⟨b, bs, rfl, hb, rb⟩ := ry
    split at h
    · rename_i ns ms h1 h2
      rw [intsOf_map h1] at ra
      rw [intsOf_map h2] at rb
      have ea := rds_intsV ra
      have eb := rds_intsV rb
      subst ea eb
      exact .inr ⟨a, b, ns, ms, rfl, rfl, ha, hb, h.ok rs _ rd_bl⟩
    · exact h.elim
  · exact h.elim
theorem od_le : OpD X (rI0 fun i j => .bl (decide (i ≤ j))) oLe := od_I0 (fun i j => .bl (decide (i ≤ j))) (fun _ _ _ _ _ => rd_bl) (fun _ _ _ => rfl) fun x y S h => by
  unfold oLe; split
  · exact (h _ _ ⟨rfl, rfl⟩).elim
  · rfl
theorem od_gt : OpD X (rI0 fun i j => .bl (decide (j < i))) oGt := od_I0 (fun i j => .bl (decide (j < i))) (fun _ _ _ _ _ => rd_bl) (fun _ _ _ => rfl) fun x y S h => by
  unfold oGt; split
  · exact (h _ _ ⟨rfl, rfl⟩).elim
  · rfl
theorem od_ge : OpD X (rI0 fun i j => .bl (decide (j ≤ i))) oGe := od_I0 (fun i j => .bl (decide (j ≤ i))) (fun _ _ _ _ _ => rd_bl) (fun _ _ _ => rfl) fun x y S h => by
  unfold oGe; split
  · exact (h _ _ ⟨rfl, rfl⟩).elim
  · rfl
theorem od_sub : OpD X (rI0 fun i j => .int (i - j)) oSub := od_I0 (fun i j => .int (i - j)) (fun _ _ _ _ _ => rd_int) (fun _ _ _ => rfl) fun x y S h => by
  unfold oSub; split
  · exact (h _ _ ⟨rfl, rfl⟩).elim
  · rfl
theorem od_mod : OpD X (rI (fun _ j => 0 < j) fun i j => .int (i % j)) oMod := by
  intro W σ φ H S x y vx vy Q rs rx ry h
  unfold oMod at h
  split at h
  · unfold RD at rx ry
    split at h
    · exact ⟨_, _, rx, ry, by assumption, h.ok rs _ rd_int⟩
    · exact h.elim
  · exact h.elim
theorem od_div : OpD X (rI CDivW fun i j => .int (i / j)) oDiv := by
  intro W σ φ H S x y vx vy Q rs rx ry h
  unfold oDiv at h
  split at h
  · unfold RD at rx ry
    split at h
    · exact ⟨_, _, rx, ry, by assumption, h.ok rs _ rd_int⟩
    · exact h.elim
  · exact h.elim
theorem od_pow : OpD X (rI CPow fun i j => .int (i ^ j.toNat)) oPow := by
  intro W σ φ H S x y vx vy Q rs rx ry h
  unfold oPow at h
  split at h
  · unfold RD at rx ry
    split at h
    · exact ⟨_, _, rx, ry, by assumption, h.ok rs _ rd_int⟩
    · exact h.elim
  · exact h.elim
theorem od_is : OpD X (fun x y H Q => y = .non ∧ Q (.bl (decide (x = .non))) H) oIs := by
  intro W σ φ H S x y vx vy Q rs rx ry h
  unfold oIs at h
  split at h
  · unfold RD at rx ry; subst rx; exact ⟨ry, h.ok rs _ rd_bl⟩
  · rename_i hx
    unfold RD at ry
    refine ⟨ry, ?_⟩
    have e : decide (vx = .non) = false := decide_eq_false fun z => by
      subst z
      cases x <;> unfold RD at rx
      · exact hx rfl
      · cases rx
      · cases rx
      · cases rx
      · obtain ⟨_, _, e, _⟩ := rx; cases e
      · obtain ⟨_, _, e⟩ := rx; cases e
    rw [e]
    exact h.ok rs _ rd_bl
  · exact h.elim
theorem od_isnot : OpD X (fun x y H Q => y = .non ∧ Q (.bl (!decide (x = .non))) H) oIsNot := by
  intro W σ φ H S x y vx vy Q rs rx ry h
  unfold oIsNot at h
  split at h
  · unfold RD at rx ry; subst rx; exact ⟨ry, h.ok rs _ rd_bl⟩
  · rename_i hx
    unfold RD at ry
    refine ⟨ry, ?_⟩
    have e : decide (vx = .non) = false := decide_eq_false fun z => by
      subst z
      cases x <;> unfold RD at rx
      · exact hx rfl
      · cases rx
      · cases rx
      · cases rx
      · obtain ⟨_, _, e, _⟩ := rx; cases e
      · obtain ⟨_, _, e⟩ := rx; cases e
    rw [e]
    exact h.ok rs _ rd_bl
  · exact h.elim
theorem od_eqD : OpD X (rEqD X.K) oEqD := by
  intro W σ φ H S x y vx vy Q rs rx ry h
  unfold oEqD at h
  split at h
  · rename_i d e h1 h2
    split at h
    · rename_i hs
      exact ⟨d, e, deep_dp rs _ _ _ _ rx h1 (SeqAt.canLay_of_shaped hs.1), deep_dp rs _ _ _ _ ry h2 (SeqAt.canLay_of_shaped hs.2), hs.1, hs.2, h.ok rs _ rd_bl⟩
    · exact h.elim
  · exact h.elim
theorem od_neD : OpD X (rNeD X.K) oNeD := by
  intro W σ φ H S x y vx vy Q rs rx ry h
  unfold oNeD at h
  split at h
  · rename_i d e h1 h2
    split at h
    · rename_i hs
      exact ⟨d, e, deep_dp rs _ _ _ _ rx h1 (SeqAt.canLay_of_shaped hs.1), deep_dp rs _ _ _ _ ry h2 (SeqAt.canLay_of_shaped hs.2), hs.1, hs.2, h.ok rs _ rd_bl⟩
    · exact h.elim
  · exact h.elim
theorem od_eq : OpD X (rEqAll X.K) oEq := by
  intro W σ φ H S x y vx vy Q rs rx ry h
  unfold oEq at h
  split at h
  · unfold RD at rx ry
    subst rx ry
    refine .inr ⟨rfl, ?_⟩
    rw [dec_str]
    exact h.ok rs _ rd_bl
  · exact .inl (od_eqD W σ φ H S _ _ vx vy Q rs rx ry h)
theorem od_ne : OpD X (rNeAll X.K) oNe := by
  intro W σ φ H S x y vx vy Q rs rx ry h
  unfold oNe at h
  split at h
  · unfold RD at rx ry
    subst rx ry
    refine .inr ⟨rfl, ?_⟩
    rw [dec_str]
    exact h.ok rs _ rd_bl
  · exact .inl (od_neD W σ φ H S _ _ vx vy Q rs rx ry h)
/-- + of ints, texts, tuples, lists -/
def rAddAll (K : PySem.W.Frag) : R2 := fun x y H Q => rI0 (fun i j => .int (i + j)) x y H Q ∨ (∃ i j, x = .str i ∧ y = .str j ∧ i.length + j.length ≤ sizeLine ∧ Q (.str (i ++ j)) H) ∨ rCatA K x y H Q ∨ rCat x y H Q
theorem op_addAll : OpR X (binaryOp .Add) (rAddAll X.K) := OpR.or op_add (OpR.or op_add_str (OpR.or op_catA op_cat))
theorem od_add : OpD X (rAddAll X.K) oAdd := by
  intro W σ φ H S x y vx vy Q rs rx ry h
  unfold oAdd at h
  split at h
  · unfold RD at rx ry
    exact .inl ⟨_, _, rx, ry, h.ok rs _ rd_int⟩
  · unfold RD at rx ry
    split at h
    · exact .inr (.inl ⟨_, _, rx, ry, by assumption, h.ok rs _ rd_str⟩)
    · exact h.elim
  · have rx0 := rx
    have ry0 := ry
    unfold RD at rx ry
    obtain ⟨a, xs, rfl, hx, qx⟩ := rx
    obtain ⟨b, ys, rfl, hy, qy⟩ := ry
    split at h
    · rename_i hz
      refine .inr (.inr (.inl ⟨a, b, xs, ys, rfl, rfl, hx, hy, by rw [qx.length, qy.length]; exact hz, fun e => ?_, fun e1 e2 => ?_, fun e1 e2 p hp => ?_⟩))
      · have := qx.length; subst e; rw [List.length_nil] at this
        have e3 := List.eq_nil_of_length_eq_zero this.symm
        rw [e3, List.nil_append] at h
        exact h.ok rs _ ry0
      · have := qy.length; subst e2; rw [List.length_nil] at this
        have e3 := List.eq_nil_of_length_eq_zero this.symm
        rw [e3, List.append_nil] at h
        exact h.ok rs _ rx0
      · exact h φ _ (Ext.new hp) (rs.new hp) _ (od_new (qx.append qy) hp)
    · exact h.elim
  · unfold RD at rx ry
    split at h
    · rename_i h1 h2
      obtain ⟨a, ha, rfl⟩ := rx
      obtain ⟨b, hb, rfl⟩ := ry
      obtain ⟨a', q1, xs, qa, ra⟩ := rs.at h1
      obtain ⟨b', q2, ys, qb, rb⟩ := rs.at h2
      rw [ha] at q1; cases q1
      rw [hb] at q2; cases q2
      split at h
      · rename_i hz
        refine .inr (.inr (.inr ⟨a, b, xs, ys, rfl, rfl, qa, qb, by rw [ra.length, rb.length]; exact hz, fun p hp => ?_⟩))
        obtain ⟨z1, z2, z3⟩ := od_newC rs (ra.append rb) hp
        exact h _ _ z2 z1 _ z3
      · exact h.elim
    · exact h.elim
  · exact h.elim
def rMulAll (K : PySem.W.Frag) : R2 := fun x y H Q => rI CMulX (fun i j => .int (i * j)) x y H Q ∨ rRep x y H Q ∨ rRepT K x y H Q
theorem op_mulAll : OpR X (binaryOp .Mult) (rMulAll X.K) := OpR.or op_mulX (OpR.or op_rep op_repT)
theorem od_mul : OpD X (rMulAll X.K) oMul := by
  intro W σ φ H S x y vx vy Q rs rx ry h
  unfold oMul at h
  split at h
  · unfold RD at rx ry
    split at h
    · exact .inl ⟨_, _, rx, ry, by assumption, h.ok rs _ rd_int⟩
    · exact h.elim
  · unfold RD at rx ry
    split at h
    · rename_i h1
      obtain ⟨a, ha, rfl⟩ := rx
      obtain ⟨a', q1, xs, qa, ra⟩ := rs.at h1
      rw [ha] at q1; cases q1
      split at h
      · rename_i hz
        refine .inr (.inl ⟨a, _, xs, rfl, ry, qa, hz.1, hz.2.1, by rw [ra.length]; exact hz.2.2, fun p hp => ?_⟩)
        obtain ⟨z1, z2, z3⟩ := od_newC rs (ra.replicate _) hp
        exact h _ _ z2 z1 _ z3
      · exact h.elim
    · exact h.elim
  · rename_i S0 ds k
    unfold RD at rx ry
    obtain ⟨a, xs, rfl, ha, ra⟩ := rx
    split at h
    · rename_i hz
      refine .inr (.inr ⟨a, _, xs, rfl, ry, ha, fun e => ?_, hz.2.1, hz.2.2.1, by rw [ra.length]; exact hz.2.2.2, fun p hp => h φ _ (Ext.new hp) (rs.new hp) _ (od_new (ra.replicate _) hp)⟩)
      subst e
      have hl := ra.length
      have e0 := hz.1
      cases ds with
      | nil => cases e0
      | cons z zs => cases hl
    · exact h.elim
  · exact h.elim
/-! the operators' rules -/
section
variable {W : WX} {a b : Expr} {pos : Pos} {ma mb : ME} {k : Nat}
theorem se_add (ha : SE X W a ma) (hb : SE X W b mb) : SE X W (.BinOp a .Add b pos) (eBin oAdd ma mb) := se_op op_addAll od_add ha hb
theorem se_sub (ha : SE X W a ma) (hb : SE X W b mb) : SE X W (.BinOp a .Sub b pos) (eBin oSub ma mb) := se_op op_sub od_sub ha hb
theorem se_mul (ha : SE X W a ma) (hb : SE X W b mb) : SE X W (.BinOp a .Mult b pos) (eBin oMul ma mb) := se_op op_mulAll od_mul ha hb
theorem se_mod (ha : SE X W a ma) (hb : SE X W b mb) : SE X W (.BinOp a .Mod b pos) (eBin oMod ma mb) := se_op op_mod od_mod ha hb
theorem se_div (ha : SE X W a ma) (hb : SE X W b mb) : SE X W (.BinOp a .FloorDiv b pos) (eBin oDiv ma mb) := se_op op_fdivW od_div ha hb
theorem se_pow (ha : SE X W a ma) (hb : SE X W b mb) : SE X W (.BinOp a .Pow b pos) (eBin oPow ma mb) := se_op op_pow od_pow ha hb
end
end
end RL

namespace RL
open PySem PySem.Spec PyProof.Rows L2

section
variable {X : Cx} {W : WX} {e : Expr} {es : List Expr} {pos p : Pos} {me : ME} {ms : MA}
/-! ### argument lists, displays -/
def aNil : MA := fun _ S => .ok [] S
def aCons (m : ME) (ms : MA) : MA := fun ρ S => (m ρ S).bind fun x S1 => (ms ρ S1).bind fun xs S2 => .ok (x :: xs) S2
theorem sa_nil : SA X W [] aNil := by
  refine pa_nil.imp fun σ H Q => ?_
  rintro ⟨φ, ρ, S, re, rs, h⟩
  exact h.ok rs [] RDs.nil
theorem sa_cons (ha : SE X W e me) (hr : SA X W es ms) (hs : starEach (e :: es) X.env = (false, eval e X.env) :: starEach es X.env := by rfl) : SA X W (e :: es) (aCons me ms) := by
  refine (pa_cons ha hr hs).imp fun σ H Q => ?_
  rintro ⟨φ, ρ, S, re, rs, h⟩
  exact LE.to re rs h fun x S1 φ1 H1 vx x1 rs1 re1 rx h1 => LA.to re1 rs1 h1 fun xs S2 φ2 H2 vs x2 rs2 re2 rxs h2 => h2.ok rs2 _ (RDs.cons (rx.mono x2) rxs)
def eTup (ms : MA) : ME := fun ρ S => (ms ρ S).bind fun xs S1 => if xs.length ≤ sizeLine then .ok (.tup xs) S1 else .bad
def eLst (ms : MA) : ME := fun ρ S => (ms ρ S).bind fun xs S1 => if xs.length ≤ sizeLine then .ok (.ptr S1.length) (S1 ++ [.lst xs]) else .bad
theorem se_tup {x1} (h : SA X W es ms) : SE X W (.Tuple es x1 pos) (eTup ms) := by
  refine (L2.pe_tup h).imp fun σ H Q => ?_
  rintro ⟨φ, ρ, S, re, rs, h⟩
  refine LA.to re rs h fun xs S1 φ1 H1 vs x1 rs1 re1 rx h1 => ?_
  split at h1
  · rename_i hz
    exact ⟨by rw [rx.length]; exact hz, fun p hp => h1 φ1 _ (Ext.new hp) (rs1.new hp) _ (od_new rx hp)⟩
  · exact h1.elim
theorem se_lst (h : SA X W es ms) : SE X W (.List es pos) (eLst ms) := by
  refine (L2.pe_lst h).imp fun σ H Q => ?_
  rintro ⟨φ, ρ, S, re, rs, h⟩
  refine LA.to re rs h fun xs S1 φ1 H1 vs x1 rs1 re1 rx h1 => ?_
  split at h1
  · rename_i hz
    refine ⟨by rw [rx.length]; exact hz, fun p hp => ?_⟩
    obtain ⟨z1, z2, z3⟩ := od_newC rs1 rx hp
    exact h1 _ _ z2 z1 _ z3
  · exact h1.elim
def eDict0 : ME := fun _ S => .ok (.ptr S.length) (S ++ [.dct []])
theorem od_newD {K : PySem.W.Frag} {H : Hp} {φ : List Addr} {S : Store} {p : Addr} {kvs : List (L2.Key × D)} {ks : List (L2.Key × V)} (rs : RS K H φ S) (r : RKv K H φ kvs ks) (hp : H p = none) :
    RS K (upd H p (.dK ks)) (φ ++ [p]) (S ++ [.dct kvs]) ∧ Ext K φ H (φ ++ [p]) (upd H p (.dK ks)) ∧ RD K (upd H p (.dK ks)) (φ ++ [p]) (.ptr S.length) (.ref p) := by
  refine ⟨rs.newC hp ⟨ks, upd_same, r.mono (Ext.newC hp)⟩, Ext.newC hp, ?_⟩
  unfold RD
  exact ⟨p, by rw [← rs.len, List.getElem?_append_right (Nat.le_refl _), Nat.sub_self]; rfl, rfl⟩
theorem se_dict0 : SE X W (.Dict [] [] pos) eDict0 := by
  refine pe_dnewK.imp fun σ H Q => ?_
  rintro ⟨φ, ρ, S, re, rs, h⟩
  intro p hp
  obtain ⟨z1, z2, z3⟩ := od_newD rs (kvs := []) (ks := []) (by unfold RKv; rfl) hp
  exact h _ _ z2 z1 _ z3
/-- {key: e} with one written key -/
def eDict1 (k : L2.Key) (m : ME) : ME := fun ρ S => (m ρ (S ++ [.dct []])).bind fun v S1 => match S1[S.length]? with
  | some (.dct []) => .ok (.ptr S.length) (S1.set S.length (.dct [(k, v)]))
  | _ => .bad
theorem se_dict1 {k : L2.Key} {ke : Expr} (hk : PE X ke (tC (kV k))) (h : SE X W e me) : SE X W (.Dict [some ke] [e] pos) (eDict1 k me) := by
  refine (pe_disp (pps_cons hk h pps_nil) (by rfl) (by rfl) (fun z => by cases z) (by show 1 ≤ 15; decide)).imp fun σ H Q => ?_
  rintro ⟨φ, ρ, S, re, rs, h⟩
  intro p hp
  obtain ⟨z1, z2, z3⟩ := od_newD rs (kvs := []) (ks := []) (by unfold RKv; rfl) hp
  refine LE.to (re.mono z2) z1 (h.from z2) fun v S1 φ1 H1 vv x1 rs1 re1 rv h1 => ?_
  split at h1
  · rename_i hS
    obtain ⟨a, q1, ks, qa, ra⟩ := rs1.at hS
    have e1 : a = p := by
      have e2 := x1.pre S.length p (by rw [← rs.len, List.getElem?_append_right (Nat.le_refl _), Nat.sub_self]; rfl)
      rw [q1] at e2; exact Option.some.inj e2
    subst e1
    have e3 : ks = [] := by unfold RKv at ra; exact ra
    subst e3
    refine ⟨qa, [(k, vv)], rfl, by show 1 ≤ 15; decide, ?_⟩
    have e4 : mergeK [] [(k, vv)] = [(k, vv)] := rfl
    rw [e4]
    have xx : Ext X.K φ1 H1 φ1 (upd H1 a (.dK [(k, vv)])) := Ext.put qa NoTup.dK
    obtain ⟨w1, w2⟩ := rs1.writeG (c' := .dct [(k, v)]) (o := .dK [(k, vv)]) hS rfl rfl q1 qa NoTup.dK ⟨_, upd_same, by unfold RKv; exact ⟨vv, [], rfl, rv.mono xx, by unfold RKv; rfl⟩⟩
    exact h1 φ1 _ w2 w1 _ (by unfold RD; exact ⟨a, q1, rfl⟩)
  · exact h1.elim

/-! ### items, slices -/
def atD (xs : List D) (i : Int) : Option D := atI xs i
def oIx : D → D → Store → Res D
  | .tup xs, .int i, S => match atD xs i with
    | some d => .ok d S
    | none => .bad
  | .ptr n, .int i, S => match S[n]? with
    | some (.lst xs) => match atD xs i with
      | some d => .ok d S
      | none => .bad
    | some (.rol xs) => match atD xs i with
      | some d => .ok d S
      | none => .bad
    | _ => .bad
  | .str z, .int i, S => match atI z.cps.toList i with
    | some c => if z.length ≤ sizeLine then .ok (.str ⟨#[c]⟩) S else .bad
    | none => .bad
  | _, _, _ => .bad
theorem RDs.at {K : PySem.W.Frag} {H : Hp} {φ : List Addr} {ds : List D} {vs : List V} {i : Int} {d : D} (r : RDs K H φ ds vs) (e : atD ds i = some d) : ∃ v, atI vs i = some v ∧ RD K H φ d v := by
  unfold atD atI at e
  unfold atI
  rw [r.length]
  cases hj : ixN ds.length i with
  | none => rw [hj] at e; cases e
  | some j => rw [hj] at e; exact r.get e
theorem od_ix : OpD X (rIx X.K) oIx := by
  intro W σ φ H S x y vx vy Q rs rx ry h
  unfold oIx at h
  split at h
  · unfold RD at rx ry
    obtain ⟨a, xs, rfl, hx, qx⟩ := rx
    split at h
    · rename_i d hd
      obtain ⟨v, h1, h2⟩ := qx.at hd
      exact .inr (.inl ⟨a, xs, _, v, rfl, ry, hx, h1, h.ok rs v h2⟩)
    · exact h.elim
  · unfold RD at rx ry
    obtain ⟨a, ha, rfl⟩ := rx
    split at h
    · rename_i ys hS
      split at h
      · rename_i d hd
        obtain ⟨a', xs, q1, q2, q3⟩ := rs.seqL (.inl hS)
        rw [ha] at q1; cases q1
        obtain ⟨v, h1, h2⟩ := q3.at hd
        exact .inl ⟨a, xs, _, v, rfl, ry, q2, h1, h.ok rs v h2⟩
      · exact h.elim
    · rename_i ys hS
      split at h
      · rename_i d hd
        obtain ⟨a', xs, q1, q2, q3⟩ := rs.seqL (.inr hS)
        rw [ha] at q1; cases q1
        obtain ⟨v, h1, h2⟩ := q3.at hd
        exact .inl ⟨a, xs, _, v, rfl, ry, q2, h1, h.ok rs v h2⟩
      · exact h.elim
    · exact h.elim
  · unfold RD at rx ry
    split at h
    · rename_i c hc
      split at h
      · exact .inr (.inr ⟨_, _, c, rx, ry, by assumption, hc, h.ok rs _ rd_str⟩)
      · exact h.elim
    · exact h.elim
  · exact h.elim
theorem se_ix {a b : Expr} {ma mb : ME} (ha : SE X W a ma) (hb : SE X W b mb) (hs : PlainIx b := by exact fun _ _ => rfl) : SE X W (.Subscript a b pos) (eBin oIx ma mb) :=
  (pe_ix ix_seq ha hb hs).imp fun _ _ _ h => eBin.to od_ix h
/-- a part of a slice -/
abbrev MO := Env → Store → Res (Option Int)
def pNone : MO := fun _ S => .ok none S
def pSome (m : ME) : MO := fun ρ S => (m ρ S).bind fun x S1 => match x with
  | .int i => .ok (some i) S1
  | _ => .bad
def LO (X : Cx) (W : WX) (m : MO) : TO := fun σ H Q => ∃ φ ρ S, RE X.K H φ ρ σ ∧ RS X.K H φ S ∧ LK X W σ φ H (m ρ S) fun b _ _ H' => Q b H'
abbrev SO (X : Cx) (W : WX) (e : Option Expr) (m : MO) : Prop := PO X e (LO X W m)
theorem _root_.L2.PO.imp {X : Cx} {e : Option Expr} {t t' : TO} (h : PO X e t) (i : ∀ σ H Q, t' σ H Q → t σ H Q) : PO X e t' := ⟨fun pins s σ H Q I q => h.run pins s σ H Q I (i σ H Q q)⟩
theorem LO.to {β : Type} {σ : L2.St} {φ : List Addr} {H : Hp} {ρ : Env} {S : Store} {ma : MO} {f : Option Int → Store → Res β} {P : β → Store → List Addr → Hp → Prop} {Q : Option Int → Hp → Prop} (re : RE X.K H φ ρ σ) (rs : RS X.K H φ S) (h : LK X W σ φ H ((ma ρ S).bind f) P)
    (q : ∀ d S1 φ1 H1, Ext X.K φ H φ1 H1 → RS X.K H1 φ1 S1 → RE X.K H1 φ1 ρ σ → LK X W σ φ1 H1 (f d S1) P → Q d H1) : LO X W ma σ H Q :=
  ⟨φ, ρ, S, re, rs, (LK.bind h).mono fun d S1 φ1 H1 x z k => q d S1 φ1 H1 x z (re.mono x) k⟩
theorem so_none : SO X W none pNone := by
  refine po_none.imp fun σ H Q => ?_
  rintro ⟨φ, ρ, S, re, rs, h⟩
  exact h.ok rs
theorem so_some (h : SE X W e me) : SO X W (some e) (pSome me) := by
  refine (po_some h).imp fun σ H Q => ?_
  rintro ⟨φ, ρ, S, re, rs, h⟩
  refine LE.to re rs h fun x S1 φ1 H1 vx x1 rs1 re1 rx h1 => ?_
  split at h1
  · unfold RD at rx; exact ⟨_, rx, h1.ok rs1⟩
  · exact h1.elim
def cutD (xs : List D) (lo hi : Option Int) : List D := (xs.drop (HT.sIx xs.length 0 lo)).take (HT.sIx xs.length xs.length hi - HT.sIx xs.length 0 lo)
theorem RDs.cut {K : PySem.W.Frag} {H : Hp} {φ : List Addr} {ds : List D} {vs : List V} (r : RDs K H φ ds vs) (lo hi : Option Int) : RDs K H φ (cutD ds lo hi) (cutV vs lo hi) := by
  unfold cutD cutV
  rw [r.length]
  exact (r.drop _).take _
def oSl (x : D) (lo hi : Option Int) (S : Store) : Res D := match x with
  | .tup xs => .ok (.tup (cutD xs lo hi)) S
  | .str z => if z.length ≤ sizeLine then .ok (.str (cutS z lo hi)) S else .bad
  | .ptr n => match S[n]? with
    | some (.lst xs) => .ok (.ptr S.length) (S ++ [.lst (cutD xs lo hi)])
    | some (.rol xs) => .ok (.ptr S.length) (S ++ [.lst (cutD xs lo hi)])
    | _ => .bad
  | _ => .bad
def eSl (me : ME) (lo hi : MO) : ME := fun ρ S => (me ρ S).bind fun x S1 => (lo ρ S1).bind fun l S2 => (hi ρ S2).bind fun u S3 => oSl x l u S3
def rSlAll (K : PySem.W.Frag) : V → Option Int → Option Int → Hp → VK → Prop := fun x lo hi H Q => rSlA K x lo hi H Q ∨ rSlS x lo hi H Q ∨ rSlL K x lo hi H Q
theorem sl_all : SlR X (rSlAll X.K) := SlR.or sl_tupA (SlR.or sl_str sl_list)
theorem se_slice {lo hi : Option Expr} {ml mh : MO} {p2 : Pos} (he : SE X W e me) (hl : SO X W lo ml) (hu : SO X W hi mh) : SE X W (.Subscript e (.Slice lo hi none p2) pos) (eSl me ml mh) := by
  refine (pe_slice sl_all he hl hu).imp fun σ H Q => ?_
  rintro ⟨φ, ρ, S, re, rs, h⟩
  refine LE.to re rs h fun x S1 φ1 H1 vx x1 rs1 re1 rx h1 => LO.to re1 rs1 h1 fun l S2 φ2 H2 x2 rs2 re2 h2 => LO.to re2 rs2 h2 fun u S3 φ3 H3 x3 rs3 re3 h3 => ?_
  have rx := (rx.mono x2).mono x3
  unfold oSl at h3
  split at h3
  · have rx0 := rx
    unfold RD at rx
    obtain ⟨a, xs, rfl, hx, qx⟩ := rx
    refine .inl ⟨a, xs, rfl, hx, fun e => ?_, fun e q hq => h3 φ3 _ (Ext.new hq) (rs3.new hq) _ (od_new (qx.cut l u) hq)⟩
    refine h3.ok rs3 _ ?_
    rw [qx.length] at e
    unfold cutD
    rw [e.1, e.2, Nat.sub_zero, List.drop_zero, List.take_length]
    exact rx0
  · unfold RD at rx
    split at h3
    · exact .inr (.inl ⟨_, rx, by assumption, h3.ok rs3 _ rd_str⟩)
    · exact h3.elim
  · unfold RD at rx
    obtain ⟨a, ha, rfl⟩ := rx
    split at h3
    · rename_i ys hS
      obtain ⟨a', xs, q1, q2, q3⟩ := rs3.seqL (.inl hS)
      rw [ha] at q1; cases q1
      refine .inr (.inr ⟨a, xs, rfl, q2, fun q hq => ?_⟩)
      obtain ⟨z1, z2, z3⟩ := od_newC rs3 (q3.cut l u) hq
      exact h3 _ _ z2 z1 _ z3
    · rename_i ys hS
      obtain ⟨a', xs, q1, q2, q3⟩ := rs3.seqL (.inr hS)
      rw [ha] at q1; cases q1
      refine .inr (.inr ⟨a, xs, rfl, q2, fun q hq => ?_⟩)
      obtain ⟨z1, z2, z3⟩ := od_newC rs3 (q3.cut l u) hq
      exact h3 _ _ z2 z1 _ z3
    · exact h3.elim
  · exact h3.elim

/-! ### built-ins by name -/
def CallD (X : Cx) (r : List V → Hp → VK → Prop) (f : Fn) : Prop := ∀ (W : WX) (σ : L2.St) (φ : List Addr) (H : Hp) (S : Store) (xs : List D) (vs : List V) (Q : VK), RS X.K H φ S → RDs X.K H φ xs vs →
  LK X W σ φ H (f xs S) (fun d _ φ' H' => ∀ v, RD X.K H' φ' d v → Q v H') → r vs H Q
def eCall (f : Fn) (ms : MA) : ME := fun ρ S => (ms ρ S).bind fun xs S1 => f xs S1
theorem eCall.to {r : List V → Hp → VK → Prop} {f : Fn} (hd : CallD X r f) {σ : L2.St} {H : Hp} {Q : VK} (h : LE X W (eCall f ms) σ H Q) : tCB r (LA X W ms) σ H Q := by
  obtain ⟨φ, ρ, S, re, rs, h⟩ := h
  exact LA.to re rs h fun xs S1 φ1 H1 vs x1 rs1 re1 rx h1 => hd W σ φ1 H1 S1 xs vs Q rs1 rx h1
theorem se_callB {x : Str} {id : String} {r : List V → Hp → VK → Prop} {f : Fn} (hc : CallR X (.builtin id) r) (hd : CallD X r f) (hm : X.mg x = none) (hv : bootBuiltins x = some (.builtin id)) (ha : SA X W (e :: es) ms) (hg : Gl X x := by rfl)
    (hn : x ≠ "__name__" := by decide) (hdb : (x == ("__debug__" : Str)) = false := by decide) (he : starEach (e :: es) X.env = (false, eval e X.env) :: starEach es X.env := by rfl) (hpl : (backTo pos (starEach es X.env)).any (·.1) = false := by rfl) :
    SE X W (.Call (.Name x p) (e :: es) [] pos) (eCall f ms) := (pe_callB hc hg hm hv ha hn hdb he hpl).imp fun _ _ _ h => eCall.to hd h
theorem se_callTy {x : Str} {T : String} {r : List V → Hp → VK → Prop} {f : Fn} (hc : CallR X (.type T) r) (hd : CallD X r f) (hm : X.mg x = none) (hv : bootBuiltins x = some (.type T)) (ha : SA X W (e :: es) ms) (hg : Gl X x := by rfl)
    (hn : x ≠ "__name__" := by decide) (hdb : (x == ("__debug__" : Str)) = false := by decide) (he : starEach (e :: es) X.env = (false, eval e X.env) :: starEach es X.env := by rfl) (hpl : (backTo pos (starEach es X.env)).any (·.1) = false := by rfl) :
    SE X W (.Call (.Name x p) (e :: es) [] pos) (eCall f ms) := (pe_callTy hc hg hm hv ha hn hdb he hpl).imp fun _ _ _ h => eCall.to hd h
def fLen : Fn
  | [.tup xs], S => .ok (.int xs.length) S
  | [.str z], S => if z.length ≤ sizeLine then .ok (.int z.length) S else .bad
  | [.ptr n], S => match S[n]? with
    | some (.lst xs) => .ok (.int xs.length) S
    | some (.rol xs) => .ok (.int xs.length) S
    | _ => .bad
  | _, _ => .bad
theorem RDs.one {K : PySem.W.Frag} {H : Hp} {φ : List Addr} {d : D} {vs : List V} (h : RDs K H φ [d] vs) : ∃ v, vs = [v] ∧ RD K H φ d v := by
  unfold RDs at h
  obtain ⟨v, vs', rfl, r, s⟩ := h
  unfold RDs at s
  subst s
  exact ⟨v, rfl, r⟩
theorem RDs.two {K : PySem.W.Frag} {H : Hp} {φ : List Addr} {d e : D} {vs : List V} (h : RDs K H φ [d, e] vs) : ∃ v u, vs = [v, u] ∧ RD K H φ d v ∧ RD K H φ e u := by
  unfold RDs at h
  obtain ⟨v, vs', rfl, r, s⟩ := h
  obtain ⟨u, rfl, q⟩ := s.one
  exact ⟨v, u, rfl, r, q⟩
theorem cd_len : CallD X (fun xs H Q => ∃ x n, xs = [x] ∧ LenV X.K x H n ∧ Q (.int n) H) fLen := by
  intro W σ φ H S xs vs Q rs r h
  unfold fLen at h
  split at h
  · obtain ⟨v, rfl, rx⟩ := r.one
    unfold RD at rx
    obtain ⟨a, ys, rfl, hx, qx⟩ := rx
    exact ⟨.ref a, _, rfl, .inr ⟨ys, hx, rfl⟩, by rw [qx.length]; exact h.ok rs _ rd_int⟩
  · obtain ⟨v, rfl, rx⟩ := r.one
    unfold RD at rx
    subst rx
    split at h
    · exact ⟨_, _, rfl, ⟨by assumption, rfl⟩, h.ok rs _ rd_int⟩
    · exact h.elim
  · obtain ⟨v, rfl, rx⟩ := r.one
    unfold RD at rx
    obtain ⟨a, ha, rfl⟩ := rx
    split at h
    · rename_i ys hS
      obtain ⟨a', xs, q1, q2, q3⟩ := rs.seqL (.inl hS)
      rw [ha] at q1; cases q1
      exact ⟨.ref a, _, rfl, .inl ⟨xs, q2, rfl⟩, by rw [q3.length]; exact h.ok rs _ rd_int⟩
    · rename_i ys hS
      obtain ⟨a', xs, q1, q2, q3⟩ := rs.seqL (.inr hS)
      rw [ha] at q1; cases q1
      exact ⟨.ref a, _, rfl, .inl ⟨xs, q2, rfl⟩, by rw [q3.length]; exact h.ok rs _ rd_int⟩
    · exact h.elim
  · exact h.elim
def fInt : Fn
  | [.int i], S => .ok (.int i) S
  | [.bl b], S => .ok (.int (if b then 1 else 0)) S
  | _, _ => .bad
theorem cd_int : CallD X (fun xs H Q => (∃ i, xs = [.int i] ∧ Q (.int i) H) ∨ ∃ k, xs = [.bl k] ∧ Q (.int (if k then 1 else 0)) H) fInt := by
  intro W σ φ H S xs vs Q rs r h
  unfold fInt at h
  split at h
  · obtain ⟨v, rfl, rx⟩ := r.one; unfold RD at rx; subst rx; exact .inl ⟨_, rfl, h.ok rs _ rd_int⟩
  · obtain ⟨v, rfl, rx⟩ := r.one; unfold RD at rx; subst rx; exact .inr ⟨_, rfl, h.ok rs _ rd_int⟩
  · exact h.elim
def fBool : Fn
  | [.int i], S => .ok (.bl (i != 0)) S
  | [.bl b], S => .ok (.bl b) S
  | _, _ => .bad
theorem cd_bool : CallD X (fun xs H Q => (∃ i, xs = [.int i] ∧ Q (.bl (i != 0)) H) ∨ ∃ k, xs = [.bl k] ∧ Q (.bl k) H) fBool := by
  intro W σ φ H S xs vs Q rs r h
  unfold fBool at h
  split at h
  · obtain ⟨v, rfl, rx⟩ := r.one; unfold RD at rx; subst rx; exact .inl ⟨_, rfl, h.ok rs _ rd_bl⟩
  · obtain ⟨v, rfl, rx⟩ := r.one; unfold RD at rx; subst rx; exact .inr ⟨_, rfl, h.ok rs _ rd_bl⟩
  · exact h.elim
def fAbs : Fn
  | [.int i], S => .ok (.int (if i < 0 then -i else i)) S
  | _, _ => .bad
theorem cd_abs : CallD X (fun xs H Q => ∃ i, xs = [.int i] ∧ Q (.int (if i < 0 then -i else i)) H) fAbs := by
  intro W σ φ H S xs vs Q rs r h
  unfold fAbs at h
  split at h
  · obtain ⟨v, rfl, rx⟩ := r.one; unfold RD at rx; subst rx; exact ⟨_, rfl, h.ok rs _ rd_int⟩
  · exact h.elim
def fMin : Fn
  | [.int i, .int j], S => .ok (.int (if j < i then j else i)) S
  | _, _ => .bad
theorem cd_min : CallD X (fun xs H Q => ∃ i j, xs = [.int i, .int j] ∧ Q (.int (if j < i then j else i)) H) fMin := by
  intro W σ φ H S xs vs Q rs r h
  unfold fMin at h
  split at h
  · obtain ⟨v, u, rfl, rx, ry⟩ := r.two; unfold RD at rx ry; subst rx ry; exact ⟨_, _, rfl, h.ok rs _ rd_int⟩
  · exact h.elim
def fMax : Fn
  | [.int i, .int j], S => .ok (.int (if j > i then j else i)) S
  | _, _ => .bad
theorem cd_max : CallD X (fun xs H Q => ∃ i j, xs = [.int i, .int j] ∧ Q (.int (if j > i then j else i)) H) fMax := by
  intro W σ φ H S xs vs Q rs r h
  unfold fMax at h
  split at h
  · obtain ⟨v, u, rfl, rx, ry⟩ := r.two; unfold RD at rx ry; subst rx ry; exact ⟨_, _, rfl, h.ok rs _ rd_int⟩
  · exact h.elim
def fTuple : Fn
  | [.tup xs], S => .ok (.tup xs) S
  | [.ptr n], S => match S[n]? with
    | some (.lst xs) => .ok (.tup xs) S
    | some (.rol xs) => .ok (.tup xs) S
    | _ => .bad
  | _, _ => .bad
theorem cd_tuple : CallD X (fun xs H Q => ∃ p ys, xs = [.ref p] ∧ ((SqL X.K H p ys ∧ ∀ l, H l = none → Q (.ref l) (upd H l (.tup ys))) ∨ (SqT X.K H p ys ∧ Q (.ref p) H))) fTuple := by
  intro W σ φ H S xs vs Q rs r h
  unfold fTuple at h
  split at h
  · obtain ⟨v, rfl, rx⟩ := r.one
    have rx0 := rx
    unfold RD at rx
    obtain ⟨a, ys, rfl, hx, qx⟩ := rx
    exact ⟨a, ys, rfl, .inr ⟨hx, h.ok rs _ rx0⟩⟩
  · obtain ⟨v, rfl, rx⟩ := r.one
    unfold RD at rx
    obtain ⟨a, ha, rfl⟩ := rx
    split at h
    · rename_i ys hS
      obtain ⟨a', xs, q1, q2, q3⟩ := rs.seqL (.inl hS)
      rw [ha] at q1; cases q1
      exact ⟨a, xs, rfl, .inl ⟨q2, fun l hl => h φ _ (Ext.new hl) (rs.new hl) _ (od_new q3 hl)⟩⟩
    · rename_i ys hS
      obtain ⟨a', xs, q1, q2, q3⟩ := rs.seqL (.inr hS)
      rw [ha] at q1; cases q1
      exact ⟨a, xs, rfl, .inl ⟨q2, fun l hl => h φ _ (Ext.new hl) (rs.new hl) _ (od_new q3 hl)⟩⟩
    · exact h.elim
  · exact h.elim
def fList : Fn
  | [.tup xs], S => .ok (.ptr S.length) (S ++ [.lst xs])
  | [.ptr n], S => match S[n]? with
    | some (.lst xs) => .ok (.ptr S.length) (S ++ [.lst xs])
    | some (.rol xs) => .ok (.ptr S.length) (S ++ [.lst xs])
    | _ => .bad
  | _, _ => .bad
theorem cd_list : CallD X (fun xs H Q => ∃ p ys, xs = [.ref p] ∧ (SqL X.K H p ys ∨ SqT X.K H p ys) ∧ ∀ l, H l = none → Q (.ref l) (upd H l (.lst ys))) fList := by
  intro W σ φ H S xs vs Q rs r h
  unfold fList at h
  split at h
  · obtain ⟨v, rfl, rx⟩ := r.one
    unfold RD at rx
    obtain ⟨a, ys, rfl, hx, qx⟩ := rx
    refine ⟨a, ys, rfl, .inr hx, fun l hl => ?_⟩
    obtain ⟨z1, z2, z3⟩ := od_newC rs qx hl
    exact h _ _ z2 z1 _ z3
  · obtain ⟨v, rfl, rx⟩ := r.one
    unfold RD at rx
    obtain ⟨a, ha, rfl⟩ := rx
    split at h
    · rename_i ys hS
      obtain ⟨a', xs, q1, q2, q3⟩ := rs.seqL (.inl hS)
      rw [ha] at q1; cases q1
      refine ⟨a, xs, rfl, .inl q2, fun l hl => ?_⟩
      obtain ⟨z1, z2, z3⟩ := od_newC rs q3 hl
      exact h _ _ z2 z1 _ z3
    · rename_i ys hS
      obtain ⟨a', xs, q1, q2, q3⟩ := rs.seqL (.inr hS)
      rw [ha] at q1; cases q1
      refine ⟨a, xs, rfl, .inl q2, fun l hl => ?_⟩
      obtain ⟨z1, z2, z3⟩ := od_newC rs q3 hl
      exact h _ _ z2 z1 _ z3
    · exact h.elim
  · exact h.elim
/-! ### isinstance of a built-in type -/
def kindC : Option Cell → Option String
  | some (.lst _) => some "list"
  | some (.rol _) => some "list"
  | some (.dct _) => some "dict"
  | some (.dcx _) => none
  | some (.rox _) => none
  | none => none
def kindD (S : Store) : D → Option String
  | .non => some "NoneType"
  | .bl _ => some "bool"
  | .int _ => some "int"
  | .str _ => some "str"
  | .tup _ => some "tuple"
  | .ptr n => kindC S[n]?
theorem kind_tyx {K : PySem.W.Frag} {H : Hp} {φ : List Addr} {S : Store} {d : D} {v : V} {n : String} (rs : RS K H φ S) (r : RD K H φ d v) (h : kindD S d = some n) : TyX K H v (.type n) := by
  cases d with
  | non => unfold RD at r; subst r; cases h; exact .base .non
  | bl b => unfold RD at r; subst r; cases h; exact .base (.bl _)
  | int b => unfold RD at r; subst r; cases h; exact .base (.int _)
  | str b => unfold RD at r; subst r; cases h; exact .base (.str _)
  | tup ds =>
    unfold RD at r
    obtain ⟨a, xs, rfl, s, _⟩ := r
    cases h
    rcases s with (s | ⟨o, s⟩) | ⟨o, its, n, s, c, _⟩
    · exact .base (.tup s)
    · exact .fTuple s
    · exact .kTuple s c
  | ptr m =>
    unfold RD at r
    obtain ⟨a, ha, rfl⟩ := r
    have h : kindC S[m]? = some n := h
    unfold kindC at h
    split at h
    · rename_i hS
      obtain ⟨a', q1, xs, q2, _⟩ := rs.at hS
      rw [ha] at q1; cases q1; cases h
      exact .base (.lst q2)
    · rename_i hS
      obtain ⟨a', q1, xs, q2, _⟩ := rs.at hS
      rw [ha] at q1; cases q1; cases h
      rcases q2 with ⟨o, q2⟩ | ⟨o, its, n', q2, q3, _⟩
      · exact .base (.frz q2)
      · exact .kList q2 q3
    · rename_i hS
      obtain ⟨a', q1, xs, q2, _⟩ := rs.at hS
      rw [ha] at q1; cases q1; cases h
      exact .base (.dK q2)
    · cases h
    · cases h
    · cases h
def isiB (k T : String) : Bool := k == T || (k == "bool" && T == "int")
def kinds6 : List String := ["NoneType", "bool", "int", "str", "tuple", "list", "dict"]
theorem kit_all : ∀ k ∈ kinds6, ∀ T ∈ kinds6, kitB k T = some (isiB k T) := by decide +kernel
theorem kindD_mem {S : Store} {d : D} {n : String} (h : kindD S d = some n) : n ∈ kinds6 := by
  unfold kinds6
  cases d with
  | ptr m =>
    have h : kindC S[m]? = some n := h
    unfold kindC at h
    split at h <;> cases h <;> simp
  | _ => cases h; simp
def eIsi (T : String) (m : ME) : ME := fun ρ S => (m ρ S).bind fun x S1 => match kindD S1 x with
  | some k => .ok (.bl (isiB k T)) S1
  | none => .bad
theorem se_isi {tn : Str} {T : String} {pt : Pos} (hm : X.mg "isinstance" = none) (hT : T ∈ kinds6) (hmt : X.mg tn = none) (hvt : bootBuiltins tn = some (.type T)) (ha : SE X W e me) (hg : Gl X "isinstance" := by rfl) (hgt : Gl X tn := by rfl)
    (hnt : tn ≠ "__name__" := by decide) (hdt : (tn == ("__debug__" : Str)) = false := by decide) (h1 : starEach [e, .Name tn pt] X.env = (false, eval e X.env) :: starEach [.Name tn pt] X.env := by rfl)
    (h2 : starEach [.Name tn pt] X.env = (false, eval (.Name tn pt) X.env) :: starEach [] X.env := by rfl) (hpl : (backTo pos (starEach [.Name tn pt] X.env)).any (·.1) = false := by rfl) :
    SE X W (.Call (.Name "isinstance" p) [e, .Name tn pt] [] pos) (eIsi T me) := by
  refine (pe_callB call_isi hg hm boot_isinstance (pa_cons ha (pa_cons (pe_bltn (v := .ty T) hgt hmt hvt rfl hnt hdt) pa_nil h2) h1) (by decide) (by decide) h1 hpl).imp fun σ H Q => ?_
  rintro ⟨φ, ρ, S, re, rs, h⟩
  refine LE.to re rs h fun x S1 φ1 H1 vx x1 rs1 re1 rx k => ?_
  split at k
  · rename_i kk hk
    exact ⟨vx, .ty T, .type kk, .type T, _, rfl, .ty T, kind_tyx rs1 rx hk, kit_ty (kit_all kk (kindD_mem hk) T hT), k.ok rs1 _ rd_bl⟩
  · exact k.elim
end
end RL

namespace RL
open PySem PySem.Spec PyProof.Rows L2

/-! ### statements -/
def ofE {α : Type} (r : Res α) (ρ : Env) (f : α → Store → SRes) : SRes :=
  match r with
  | .ok a S => f a S
  | .exn x S => .exn x ρ S
  | .bad => .bad
section
variable {X : Cx} {W : WX} {e c : Expr} {es : List Expr} {st : Stmt} {sts rest : List Stmt} {pos p : Pos} {me : ME} {ms : MA} {m n : MS} {t : MT}
theorem LKS.ofE {α : Type} {r : Res α} {ρ : Env} {σ : L2.St} {φ : List Addr} {H : Hp} {f : α → Store → SRes} {D : Ends} (re : RE X.K H φ ρ σ) (h : LKS X W φ H (RL.ofE r ρ f) D) :
    LK X W σ φ H r fun a S1 φ1 H1 => LKS X W φ1 H1 (f a S1) D := by
  cases r with
  | ok a S => exact fun φ2 H2 y z => LKS.from y h
  | exn x S => exact fun φ2 H2 cls dd y z q => h φ2 H2 σ cls dd y z (re.mono y) q
  | bad => exact h
theorem LE.toS {ρ : Env} {S : Store} {σ : L2.St} {φ : List Addr} {H : Hp} {f : D → Store → SRes} {D : Ends} {Q : VK} (re : RE X.K H φ ρ σ) (rs : RS X.K H φ S) (h : LKS X W φ H (ofE (me ρ S) ρ f) D)
    (q : ∀ d S1 φ1 H1 v, Ext X.K φ H φ1 H1 → RS X.K H1 φ1 S1 → RE X.K H1 φ1 ρ σ → RD X.K H1 φ1 d v → LKS X W φ1 H1 (f d S1) D → Q v H1) : LE X W me σ H Q :=
  ⟨φ, ρ, S, re, rs, (LKS.ofE re h).mono fun d S1 φ1 H1 x z k v rd => q d S1 φ1 H1 v x z (re.mono x) rd k⟩
theorem LT.toS {ρ : Env} {S : Store} {σ : L2.St} {φ : List Addr} {H : Hp} {f : Bool → Store → SRes} {D : Ends} {Q : Bool → Hp → Prop} (re : RE X.K H φ ρ σ) (rs : RS X.K H φ S) (h : LKS X W φ H (ofE (t ρ S) ρ f) D)
    (q : ∀ d S1 φ1 H1, Ext X.K φ H φ1 H1 → RS X.K H1 φ1 S1 → RE X.K H1 φ1 ρ σ → LKS X W φ1 H1 (f d S1) D → Q d H1) : LT X W t σ H Q :=
  ⟨φ, ρ, S, re, rs, (LKS.ofE re h).mono fun d S1 φ1 H1 x z k => q d S1 φ1 H1 x z (re.mono x) k⟩
theorem LS.go {ρ : Env} {S : Store} {σ : L2.St} {φ : List Addr} {H : Hp} {D : Ends} (re : RE X.K H φ ρ σ) (rs : RS X.K H φ S) (h : LKS X W φ H (m ρ S) D) : LS X W m D σ H := ⟨φ, ρ, S, re, rs, h⟩
theorem LKS.nx {ρ : Env} {S : Store} {σ : L2.St} {φ : List Addr} {H : Hp} {D : Ends} (h : LKS X W φ H (.next ρ S) D) (re : RE X.K H φ ρ σ) (rs : RS X.K H φ S) : D.nx σ H := h φ H σ Ext.refl rs re
def sDrop (me : ME) : MS := fun ρ S => ofE (me ρ S) ρ fun _ S1 => .next ρ S1
def sRet (me : ME) : MS := fun ρ S => ofE (me ρ S) ρ fun d S1 => .ret d S1
def sRetN : MS := fun _ S => .ret .non S
def sPass : MS := fun ρ S => .next ρ S
def sBrk : MS := fun ρ S => .brk ρ S
def sCont : MS := fun ρ S => .cont ρ S
def sIf (t : MT) (m n : MS) : MS := fun ρ S => ofE (t ρ S) ρ fun c S1 => if c then m ρ S1 else n ρ S1
def sSeq (m n : MS) : MS := fun ρ S => match m ρ S with
  | .next ρ1 S1 => n ρ1 S1
  | r => r
theorem ss_drop (he : SE X W e me) (hs : swapsWith e none pos.line X.env = pure false := by rfl) : SS X W (.Expr e pos) (sDrop me) := by
  refine (ps_expr he hs).imp fun D σ H => ?_
  rintro ⟨φ, ρ, S, re, rs, h⟩
  exact LE.toS re rs h fun d S1 φ1 H1 v x1 rs1 re1 rd k => k.nx re1 rs1
theorem ss_ret (he : SE X W e me) : SS X W (.Return (some e) pos) (sRet me) := by
  refine (ps_ret he).imp fun D σ H => ?_
  rintro ⟨φ, ρ, S, re, rs, h⟩
  exact LE.toS re rs h fun d S1 φ1 H1 v x1 rs1 re1 rd k => k φ1 H1 v Ext.refl rs1 rd
theorem ss_retN : SS X W (.Return none pos) sRetN := by
  refine ps_retN.imp fun D σ H => ?_
  rintro ⟨φ, ρ, S, re, rs, h⟩
  exact h φ H _ Ext.refl rs rd_non
theorem ss_pass : SS X W (.Pass pos) sPass := by
  refine ps_pass.imp fun D σ H => ?_
  rintro ⟨φ, ρ, S, re, rs, h⟩
  exact h φ H σ Ext.refl rs re
theorem ss_break : SS X W (.Break pos) sBrk := by
  refine ps_break.imp fun D σ H => ?_
  rintro ⟨φ, ρ, S, re, rs, h⟩
  exact h φ H σ Ext.refl rs re
theorem ss_cont : SS X W (.Continue pos) sCont := by
  refine ps_continue.imp fun D σ H => ?_
  rintro ⟨φ, ρ, S, re, rs, h⟩
  exact h φ H σ Ext.refl rs re
theorem sss_nil : SSs X W [] sPass := by
  refine pss_nil.imp fun D σ H => ?_
  rintro ⟨φ, ρ, S, re, rs, h⟩
  exact h φ H σ Ext.refl rs re
theorem sss_cons (h1 : SS X W st m) (h2 : SSs X W rest n) : SSs X W (st :: rest) (sSeq m n) := by
  refine (pss_cons h1 h2).imp fun D σ H => ?_
  rintro ⟨φ, ρ, S, re, rs, h⟩
  refine ⟨φ, ρ, S, re, rs, ?_⟩
  unfold sSeq at h
  cases hm : m ρ S with
  | next ρ1 S1 => rw [hm] at h; exact fun φ2 H2 σ2 x2 rs2 re2 => ⟨φ2, ρ1, S1, re2, rs2, LKS.from x2 h⟩
  | ret d S1 => rw [hm] at h; exact h
  | brk ρ1 S1 => rw [hm] at h; exact h
  | cont ρ1 S1 => rw [hm] at h; exact h
  | exn x ρ1 S1 => rw [hm] at h; exact h
  | bad => rw [hm] at h; exact h
theorem ss_if {a b : List Stmt} (hc : ST X W c t) (ha : SSs X W a m) (hb : SSs X W b n) : SS X W (.If c a b pos) (sIf t m n) := by
  refine (ps_if hc ha hb).imp fun D σ H => ?_
  rintro ⟨φ, ρ, S, re, rs, h⟩
  refine LT.toS re rs h fun d S1 φ1 H1 x1 rs1 re1 k => ?_
  cases d with
  | true => exact iteT (LS.go re1 rs1 k)
  | false => exact iteF (LS.go re1 rs1 k)

/-! ### targets -/
abbrev MG := D → Env → Store → SRes
abbrev MGs := List D → Env → Store → SRes
def onlyNx (Q : L2.St → Hp → Prop) : Ends := { nx := Q, rt := fun _ _ => False }
def LG (X : Cx) (W : WX) (g : MG) : TG := fun v σ H Q => ∃ φ ρ S d, RE X.K H φ ρ σ ∧ RS X.K H φ S ∧ RD X.K H φ d v ∧ LKS X W φ H (g d ρ S) (onlyNx Q)
def LGs (X : Cx) (W : WX) (g : MGs) : TGs := fun vs σ H Q => ∃ φ ρ S ds, RE X.K H φ ρ σ ∧ RS X.K H φ S ∧ RDs X.K H φ ds vs ∧ LKS X W φ H (g ds ρ S) (onlyNx Q)
abbrev SG (X : Cx) (W : WX) (tg : Expr) (g : MG) : Prop := PG X tg (LG X W g)
abbrev SGs (X : Cx) (W : WX) (tg : List Expr) (g : MGs) : Prop := PGs X tg (LGs X W g)
theorem _root_.L2.PG.imp {X : Cx} {e : Expr} {t t' : TG} (h : PG X e t) (i : ∀ v σ H Q, t' v σ H Q → t v σ H Q) : PG X e t' := ⟨fun pins s σ H v u Q I r q => h.run pins s σ H v u Q I r (i v σ H Q q)⟩
theorem _root_.L2.PGs.imp {X : Cx} {e : List Expr} {t t' : TGs} (h : PGs X e t) (i : ∀ v σ H Q, t' v σ H Q → t v σ H Q) : PGs X e t' := ⟨fun pins s σ H v u Q I r q => h.run pins s σ H v u Q I r (i v σ H Q q)⟩
def gNm (i : Nat) : MG := fun d ρ S => .next (ρ.set i (some d)) S
theorem sg_name (i : Nat) {x : Str} (hN : X.N.Nodup) (hi : X.N[i]? = some x := by rfl) (hx : Loc X.env.scope x := by first | exact Or.inl rfl | exact Or.inr rfl) (hf : X.fn x = true ∨ X.env.scope.names.lookup x = some .local := by first | exact .inl rfl | exact .inr rfl | assumption) : SG X W (.Name x pos) (gNm i) := by
  refine (pg_name hN hi hx hf).imp fun v σ H Q => ?_
  rintro ⟨φ, ρ, S, d, re, rs, rd, h⟩
  exact h.nx (re.set i rd) rs
def gNilM : MGs := fun ds ρ S => match ds with
  | [] => .next ρ S
  | _ => .bad
def gConsM (g : MG) (gs : MGs) : MGs := fun ds ρ S => match ds with
  | d :: r => match g d ρ S with
    | .next ρ1 S1 => gs r ρ1 S1
    | q => q
  | [] => .bad
theorem sgs_nil : SGs X W [] gNilM := by
  refine pgs_nil.imp fun vs σ H Q => ?_
  rintro ⟨φ, ρ, S, ds, re, rs, rd, h⟩
  unfold gNilM at h
  split at h
  · unfold RDs at rd; exact ⟨rd, h.nx re rs⟩
  · exact h.elim
theorem sgs_cons {g : MG} {gs : MGs} (h1 : SG X W e g) (h2 : SGs X W es gs) (hs : (assignEach (e :: es) X.env).map (·.2) = assign e X.env :: (assignEach es X.env).map (·.2) := by rfl) : SGs X W (e :: es) (gConsM g gs) := by
  refine (pgs_cons h1 h2 hs).imp fun vs σ H Q => ?_
  rintro ⟨φ, ρ, S, ds, re, rs, rd, h⟩
  cases ds with
  | nil => exact h.elim
  | cons d r =>
    unfold RDs at rd
    obtain ⟨v, vs', rfl, rd1, rd2⟩ := rd
    refine ⟨v, vs', rfl, φ, ρ, S, d, re, rs, rd1, ?_⟩
    have h : LKS X W φ H (match g d ρ S with
      | .next ρ1 S1 => gs r ρ1 S1
      | q => q) (onlyNx Q) := h
    cases hm : g d ρ S with
    | next ρ1 S1 => rw [hm] at h; exact fun φ2 H2 σ2 x2 rs2 re2 => ⟨φ2, ρ1, S1, r, re2, rs2, rd2.mono x2, LKS.from x2 h⟩
    | ret d S1 => rw [hm] at h; exact h
    | brk ρ1 S1 => rw [hm] at h; exact h
    | cont ρ1 S1 => rw [hm] at h; exact h
    | exn x ρ1 S1 => rw [hm] at h; exact h
    | bad => rw [hm] at h; exact h
def gTp (n : Nat) (gs : MGs) : MG := fun d ρ S => match d with
  | .tup xs => if xs.length = n then gs xs ρ S else .bad
  | .ptr m => match S[m]? with
    | some (.lst xs) => if xs.length = n then gs xs ρ S else .bad
    | some (.rol xs) => if xs.length = n then gs xs ρ S else .bad
    | _ => .bad
  | _ => .bad
theorem _root_.L2.PG.or {X : Cx} {e : Expr} {t u : TG} (h : PG X e t) (g : PG X e u) : PG X e (fun v σ H Q => t v σ H Q ∨ u v σ H Q) := ⟨fun pins s σ H v w Q I r q => by
  rcases q with q | q
  · exact h.run pins s σ H v w Q I r q
  · exact g.run pins s σ H v w Q I r q⟩
theorem sg_tup {es : List Expr} {k n : Nat} {gs : MGs} (hc : X.calm = true) (h : SGs X W es gs) (hn : (assignEach es X.env).length = n := by rfl) (hst : (assignEach es X.env).findIdx? (·.1) = none := by rfl) : SG X W (.Tuple es k pos) (gTp n gs) := by
  refine ((pg_tup hc h hn hst).or (pg_unl hc h hn hst)).imp fun v σ H Q => ?_
  rintro ⟨φ, ρ, S, d, re, rs, rd, h⟩
  unfold gTp at h
  split at h
  · unfold RD at rd
    obtain ⟨a, xs, rfl, s, q⟩ := rd
    split at h
    · exact .inl ⟨a, xs, rfl, s, by rw [q.length]; assumption, φ, ρ, S, _, re, rs, q, h⟩
    · exact h.elim
  · unfold RD at rd
    obtain ⟨a, ha, rfl⟩ := rd
    split at h
    · rename_i ys hS
      obtain ⟨a', us, q1, q2, q3⟩ := rs.seqL (.inl hS)
      rw [ha] at q1; cases q1
      split at h
      · exact .inr ⟨a, us, rfl, q2, by rw [q3.length]; assumption, φ, ρ, S, _, re, rs, q3, h⟩
      · exact h.elim
    · rename_i ys hS
      obtain ⟨a', us, q1, q2, q3⟩ := rs.seqL (.inr hS)
      rw [ha] at q1; cases q1
      split at h
      · exact .inr ⟨a, us, rfl, q2, by rw [q3.length]; assumption, φ, ρ, S, _, re, rs, q3, h⟩
      · exact h.elim
    · exact h.elim
  · exact h.elim
def putL (o i d : D) (S : Store) : Option Store := match o, i with
  | .ptr n, .int k => match S[n]? with
    | some (.lst xs) => (ixN xs.length k).map fun j => S.set n (.lst (xs.set j d))
    | _ => none
  | _, _ => none
def gSubM (mo mi : ME) : MG := fun d ρ S => ofE (mo ρ S) ρ fun o S1 => ofE (mi ρ S1) ρ fun i S2 => match putL o i d S2 with
  | some S3 => .next ρ S3
  | none => .bad
theorem sg_sub {o i : Expr} {mo mi : ME} (ho : SE X W o mo) (hi : SE X W i mi)
    (ha : ∀ v, assign (.Subscript o i pos) X.env v = (do
      let ov ← holding [v] (eval o X.env)
      let iv ← holding [v, ov] (eval i X.env)
      standAt pos
      holding [v, ov, iv] (setItem ov iv v)
      release [v, ov, iv] []) := by intro _; rfl) : SG X W (.Subscript o i pos) (gSubM mo mi) := by
  refine (pg_sub ho hi set_list ha).imp fun v σ H Q => ?_
  rintro ⟨φ, ρ, S, d, re, rs, rd, h⟩
  refine LE.toS re rs h fun od S1 φ1 H1 ov x1 rs1 re1 ro h1 => LE.toS re1 rs1 h1 fun di S2 φ2 H2 iv x2 rs2 re2 ri h2 => ?_
  split at h2
  · rename_i S3 hp
    unfold putL at hp
    split at hp
    · rename_i n k
      unfold RD at ro ri
      obtain ⟨a, ha, rfl⟩ := ro
      split at hp
      · rename_i ds hS
        cases hj : ixN ds.length k with
        | none => rw [hj] at hp; cases hp
        | some j =>
          rw [hj] at hp; cases hp
          obtain ⟨a', q1, xs, q2, q3⟩ := rs2.at hS
          rw [x2.pre _ _ ha] at q1; cases q1
          refine ⟨a, xs, k, j, rfl, ri, q2, by rw [q3.length]; exact hj, ?_⟩
          obtain ⟨w1, w2⟩ := rs2.write hS (x2.pre _ _ ha) q2 (q3.set j ((rd.mono x1).mono x2))
          exact h2 φ2 _ σ w2 w1 (re2.mono w2)
      · cases hp
    · cases hp
  · exact h2.elim
def nxOnly : SRes → SRes
  | .next ρ S => .next ρ S
  | .exn x ρ S => .exn x ρ S
  | _ => .bad
theorem LKS.nxOnly {φ : List Addr} {H : Hp} {r : SRes} {D : Ends} (h : LKS X W φ H (RL.nxOnly r) D) : LKS X W φ H r (onlyNx D.nx) := by
  cases r with
  | next ρ S => exact h
  | exn x ρ S => exact h
  | ret d S => exact h.elim
  | brk ρ S => exact h.elim
  | cont ρ S => exact h.elim
  | bad => exact h
def sAsg (me : ME) (g : MG) : MS := fun ρ S => ofE (me ρ S) ρ fun d S1 => nxOnly (g d ρ S1)
def sSet (i : Nat) (me : ME) : MS := fun ρ S => ofE (me ρ S) ρ fun d S1 => .next (ρ.set i (some d)) S1
theorem ss_asg {tg : Expr} {g : MG} (he : SE X W e me) (hg : SG X W tg g) (hs : swapsWithSole [tg] e pos.line X.env = pure false := by rfl) (hw : swappedStores [tg] e X.env = pure none := by rfl)
    (h1 : (assignEach [tg] X.env).map (·.2) = [assign tg X.env] := by rfl) : SS X W (.Assign [tg] e pos) (sAsg me g) := by
  refine (ps_asg he hg hs hw h1).imp fun D σ H => ?_
  rintro ⟨φ, ρ, S, re, rs, h⟩
  exact LE.toS re rs h fun d S1 φ1 H1 v x1 rs1 re1 rd k => ⟨φ1, ρ, S1, d, re1, rs1, rd, LKS.nxOnly k⟩
theorem ss_set (i : Nat) {x : Str} {pos' : Pos} (hN : X.N.Nodup) (he : SE X W e me) (hi : X.N[i]? = some x := by rfl) (hx : Loc X.env.scope x := by first | exact Or.inl rfl | exact Or.inr rfl) (hs : swapsWith e (some (.Name x pos')) pos.line X.env = pure false := by rfl)
    (hf : X.fn x = true ∨ X.env.scope.names.lookup x = some .local := by first | exact .inl rfl | exact .inr rfl | assumption) : SS X W (.Assign [.Name x pos'] e pos) (sSet i me) := by
  refine (ps_set hN hi hx he hs hf).imp fun D σ H => ?_
  rintro ⟨φ, ρ, S, re, rs, h⟩
  exact LE.toS re rs h fun d S1 φ1 H1 v x1 rs1 re1 rd k => k.nx (re1.set i rd) rs1

/-! ### what is walked -/
structure ItD where
  items : List D
  chk : Store → Prop
/-- J gives the items of it, from φ0, H0 on -/
structure WalkA (K : PySem.W.Frag) (φ0 : List Addr) (H0 : Hp) (J : It) (it : ItD) : Prop where
  go : ∀ i φ H S, i < it.items.length → Ext K φ0 H0 φ H → RS K H φ S → it.chk S → J.go i H
  stop : ∀ φ H S, Ext K φ0 H0 φ H → RS K H φ S → it.chk S → J.stop it.items.length H
  yld : ∀ i φ H S x H', i < it.items.length → Ext K φ0 H0 φ H → RS K H φ S → it.chk S → J.yld i H x H' → ∃ d, it.items[i]? = some d ∧ Ext K φ H φ H' ∧ RS K H' φ S ∧ RD K H' φ d x
abbrev MI := Env → Store → Res ItD
def LI (X : Cx) (W : WX) (m : MI) : TI := fun σ H R => ∃ φ ρ S, RE X.K H φ ρ σ ∧ RS X.K H φ S ∧ LK X W σ φ H (m ρ S) fun it S' φ' H' => ∀ J, WalkA X.K φ' H' J it → R J H'
abbrev SI (X : Cx) (W : WX) (tg iter : Expr) (m : MI) : Prop := PI X tg iter (LI X W m)
theorem _root_.L2.PI.imp {X : Cx} {tg e : Expr} {t t' : TI} (h : PI X tg e t) (i : ∀ σ H R, t' σ H R → t σ H R) : PI X tg e t' := ⟨fun pins s σ H R I q => h.run pins s σ H R I (i σ H R q)⟩
/-- over a tuple, a list -/
def iTupM (me : ME) : MI := fun ρ S => (me ρ S).bind fun d S1 => match d with
  | .tup xs => .ok ⟨xs, fun _ => True⟩ S1
  | _ => .bad
def iLstM (me : ME) : MI := fun ρ S => (me ρ S).bind fun d S1 => match d with
  | .ptr n => match S1[n]? with
    | some (.lst xs) => .ok ⟨xs, fun S => S[n]? = some (.lst xs)⟩ S1
    | some (.rol xs) => .ok ⟨xs, fun S => S[n]? = some (.rol xs)⟩ S1
    | _ => .bad
  | _ => .bad
theorem RDs.pt {K : PySem.W.Frag} {H : Hp} {φ : List Addr} {ds : List D} {vs : List V} {i : Nat} {v : V} (r : RDs K H φ ds vs) (e : vs[i]? = some v) : ∃ d, ds[i]? = some d ∧ RD K H φ d v := by
  have hi : i < ds.length := by rw [← r.length]; exact (List.getElem?_eq_some_iff.mp e).1
  obtain ⟨u, h1, h2⟩ := r.get (List.getElem?_eq_getElem hi)
  rw [e] at h1; cases h1
  exact ⟨_, List.getElem?_eq_getElem hi, h2⟩
theorem si_tup {tg : Expr} (he : SE X W e me) : SI X W tg e (iTupM me) := by
  refine (pi_tup he).imp fun σ H R => ?_
  rintro ⟨φ, ρ, S, re, rs, h⟩
  refine LE.to re rs h fun d S1 φ1 H1 v x1 rs1 re1 rd k => ?_
  split at k
  · unfold RD at rd
    obtain ⟨a, xs, rfl, s, q⟩ := rd
    refine ⟨a, rfl, ⟨xs, s⟩, k.ok rs1 _ ⟨fun i φ2 H2 S2 hi x2 rs2 _ => ?_, fun φ2 H2 S2 x2 rs2 _ => ?_, fun i φ2 H2 S2 x H' hi x2 rs2 _ y => ?_⟩⟩
    · have hi : i < xs.length := by rw [q.length]; exact hi
      exact ⟨xs, xs[i], x2.tup _ _ s, List.getElem?_eq_getElem hi⟩
    · exact ⟨xs, x2.tup _ _ s, Nat.le_of_eq q.length⟩
    · obtain ⟨e1, y⟩ := y
      subst e1
      obtain ⟨d, h1, h2⟩ := (q.mono x2).pt (y xs (x2.tup _ _ s))
      exact ⟨d, h1, Ext.refl, rs2, h2⟩
  · exact k.elim
theorem walk_lst {K : PySem.W.Frag} {φ0 : List Addr} {H0 : Hp} {n : Nat} {a : Addr} {ds : List D} {chk : Store → Prop} (ha : φ0[n]? = some a) (hc : ∀ S, chk S → S[n]? = some (.lst ds) ∨ S[n]? = some (.rol ds)) : WalkA K φ0 H0 (Itl K a) ⟨ds, chk⟩ := by
  have get : ∀ φ H S, Ext K φ0 H0 φ H → RS K H φ S → chk S → ∃ xs, SqL K H a xs ∧ RDs K H φ ds xs := fun φ H S x rs c => by
    obtain ⟨a', xs, q1, q2, q3⟩ := rs.seqL (hc S c)
    rw [x.pre _ _ ha] at q1; cases q1
    exact ⟨xs, q2, q3⟩
  refine ⟨fun i φ H S hi x rs c => ?_, fun φ H S x rs c => ?_, fun i φ H S v H' hi x rs c y => ?_⟩
  · obtain ⟨xs, s, q⟩ := get φ H S x rs c
    have hi : i < xs.length := by rw [q.length]; exact hi
    exact ⟨xs, xs[i], s, List.getElem?_eq_getElem hi⟩
  · obtain ⟨xs, s, q⟩ := get φ H S x rs c
    exact ⟨xs, s, Nat.le_of_eq q.length⟩
  · obtain ⟨xs, s, q⟩ := get φ H S x rs c
    obtain ⟨e1, y⟩ := y
    subst e1
    obtain ⟨d, h1, h2⟩ := q.pt (y xs s)
    exact ⟨d, h1, Ext.refl, rs, h2⟩
theorem si_lst {tg : Expr} (he : SE X W e me) : SI X W tg e (iLstM me) := by
  refine (pi_list he).imp fun σ H R => ?_
  rintro ⟨φ, ρ, S, re, rs, h⟩
  refine LE.to re rs h fun d S1 φ1 H1 v x1 rs1 re1 rd k => ?_
  split at k
  · rename_i n
    unfold RD at rd
    obtain ⟨a, ha, rfl⟩ := rd
    split at k
    · rename_i ds hS
      obtain ⟨a', xs, q1, q2, q3⟩ := rs1.seqL (.inl hS)
      rw [ha] at q1; cases q1
      exact ⟨a, rfl, ⟨xs, q2⟩, k.ok rs1 _ (walk_lst ha fun S c => .inl c)⟩
    · rename_i ds hS
      obtain ⟨a', xs, q1, q2, q3⟩ := rs1.seqL (.inr hS)
      rw [ha] at q1; cases q1
      exact ⟨a, rfl, ⟨xs, q2⟩, k.ok rs1 _ (walk_lst ha fun S c => .inr c)⟩
    · exact k.elim
  · exact k.elim
/-- range(n), range(a, b) -/
def rangeD (lo : Int) (n : Nat) : List D := (List.range n).map fun i => .int (lo + (i : Nat))
def iRngM1 (ms : MA) : MI := fun ρ S => (ms ρ S).bind fun xs S1 => match xs with
  | [.int j] => if -(2 ^ 62) ≤ j ∧ j < 2 ^ 62 then .ok ⟨rangeD 0 j.toNat, fun _ => True⟩ S1 else .bad
  | _ => .bad
def iRngM2 (ms : MA) : MI := fun ρ S => (ms ρ S).bind fun xs S1 => match xs with
  | [.int i, .int j] => if (-(2 ^ 62) ≤ i ∧ i < 2 ^ 62) ∧ (-(2 ^ 62) ≤ j ∧ j < 2 ^ 62) then .ok ⟨rangeD i (j - i).toNat, fun _ => True⟩ S1 else .bad
  | _ => .bad
theorem walk_rng {K : PySem.W.Frag} {φ0 : List Addr} {H0 : Hp} {lo : Int} {n : Nat} : WalkA K φ0 H0 (Itr lo n) ⟨rangeD lo n, fun _ => True⟩ := by
  have hl : (rangeD lo n).length = n := by unfold rangeD; rw [List.length_map, List.length_range]
  refine ⟨fun i φ H S hi x rs c => by rw [hl] at hi; exact hi, fun φ H S x rs c => by rw [hl]; exact Nat.le_refl _, fun i φ H S v H' hi x rs c y => ?_⟩
  obtain ⟨e1, y⟩ := y
  subst e1 y
  rw [hl] at hi
  refine ⟨.int (lo + (i : Nat)), ?_, Ext.refl, rs, rd_int⟩
  unfold rangeD
  rw [List.getElem?_map, List.getElem?_range hi]
  rfl
theorem si_range1 {tg a : Expr} {p pos : Pos} (hm : X.mg "range" = none) (ha : SA X W [a] ms) (hg : Gl X "range" := by rfl) (hs : starEach [a] X.env = [(false, eval a X.env)] := by rfl) : SI X W tg (.Call (.Name "range" p) [a] [] pos) (iRngM1 ms) := by
  refine (pi_range1 hg hm ha hs).imp fun σ H R => ?_
  rintro ⟨φ, ρ, S, re, rs, h⟩
  refine LA.to re rs h fun xs S1 φ1 H1 vs x1 rs1 re1 rd k => ?_
  split at k
  · obtain ⟨v, rfl, r1⟩ := rd.one
    unfold RD at r1; subst r1
    split at k
    · rename_i hz
      exact ⟨_, rfl, hz.1, hz.2, k.ok rs1 _ walk_rng⟩
    · exact k.elim
  · exact k.elim
theorem si_range2 {tg a b : Expr} {p pos : Pos} (hm : X.mg "range" = none) (ha : SA X W [a, b] ms) (hg : Gl X "range" := by rfl) (hs : starEach [a, b] X.env = [(false, eval a X.env), (false, eval b X.env)] := by rfl)
    (hs2 : starEach [b] X.env = [(false, eval b X.env)] := by rfl) : SI X W tg (.Call (.Name "range" p) [a, b] [] pos) (iRngM2 ms) := by
  refine (pi_range2 hg hm ha hs hs2).imp fun σ H R => ?_
  rintro ⟨φ, ρ, S, re, rs, h⟩
  refine LA.to re rs h fun xs S1 φ1 H1 vs x1 rs1 re1 rd k => ?_
  split at k
  · obtain ⟨v, u, rfl, r1, r2⟩ := rd.two
    unfold RD at r1 r2; subst r1 r2
    split at k
    · rename_i hz
      exact ⟨_, _, rfl, ⟨hz.1.1, hz.1.2, hz.2.1, hz.2.2⟩, k.ok rs1 _ walk_rng⟩
    · exact k.elim
  · exact k.elim

/-! ### for -/
open Classical in
noncomputable def forM (chk : Store → Prop) (g : MG) (body : MS) : List D → Env → Store → SRes
  | [], ρ, S => .next ρ S
  | x :: xs, ρ, S => match nxOnly (g x ρ S) with
    | .next ρ1 S1 => match body ρ1 S1 with
      | .next ρ2 S2 => if chk S2 then forM chk g body xs ρ2 S2 else .bad
      | .cont ρ2 S2 => if chk S2 then forM chk g body xs ρ2 S2 else .bad
      | .brk ρ2 S2 => .next ρ2 S2
      | r => r
    | r => r
open Classical in
noncomputable def sFor (mi : MI) (g : MG) (body : MS) : MS := fun ρ S => ofE (mi ρ S) ρ fun it S1 => if it.chk S1 then forM it.chk g body it.items ρ S1 else .bad
theorem ss_for {k : Nat} {tg iter : Expr} {body : List Stmt} {mi : MI} {g : MG} (c : Ctx X W k) (hi : SI X W tg iter mi) (hg : SG X W tg g) (hb : SSs X W body m) (hs : ∀ x, foldedSetIterable iter X.env x = pure x := by intro _; rfl) :
    SS X W (.For tg iter body [] pos) (sFor mi g m) := by
  refine (ps_for c.po c.calm hi hg hb hs).imp fun D σ H => ?_
  rintro ⟨φ, ρ, S, re, rs, h⟩
  refine ⟨φ, ρ, S, re, rs, (LKS.ofE re h).mono fun it S1 φ1 H1 x1 rs1 kk J wk => ?_⟩
  have hc : it.chk S1 := by
    by_cases hc : it.chk S1
    · exact hc
    · rw [if_neg hc] at kk; exact kk.elim
  rw [if_pos hc] at kk
  refine ⟨fun i mm σ H => mm = it.items.length - i ∧ i ≤ it.items.length ∧ ∃ φ ρ S, Ext X.K φ1 H1 φ H ∧ RS X.K H φ S ∧ RE X.K H φ ρ σ ∧ it.chk S ∧ LKS X W φ H (forM it.chk g m (it.items.drop i) ρ S) D,
    ⟨it.items.length, rfl, Nat.zero_le _, φ1, ρ, S1, Ext.refl, rs1, re.mono x1, hc, kk⟩, ?_⟩
  rintro i mm σ H ⟨rfl, hil, φ2, ρ2, S2, x2, rs2, re2, c2, k2⟩
  by_cases hlt : i < it.items.length
  · refine .inr ⟨wk.go i φ2 H S2 hlt x2 rs2 c2, fun σ' H' => ∃ φ ρ S, Ext X.K φ1 H1 φ H' ∧ RS X.K H' φ S ∧ RE X.K H' φ ρ σ' ∧ it.chk S ∧ LKS X W φ H' (forM it.chk g m (it.items.drop (i + 1)) ρ S) D,
      fun σ' H' hN => ⟨it.items.length - (i + 1), by omega, rfl, hlt, hN⟩, fun x H' y => ?_⟩
    obtain ⟨d, hd, x3, rs3, rd3⟩ := wk.yld i φ2 H S2 x H' hlt x2 rs2 c2 y
    refine ⟨φ2, ρ2, S2, d, re2.mono x3, rs3, rd3, ?_⟩
    have k3 := LKS.from x3 k2
    have hdr : it.items.drop i = d :: it.items.drop (i + 1) := by
      rw [List.drop_eq_getElem_cons hlt]
      have : it.items[i] = d := by rw [List.getElem?_eq_getElem hlt] at hd; exact Option.some.inj hd
      rw [this]
    rw [hdr] at k3
    unfold forM at k3
    cases hm : g d ρ2 S2 with
    | next ρ4 S4 =>
      rw [hm] at k3
      refine fun φ5 H5 σ5 x5 rs5 re5 => ⟨φ5, ρ4, S4, re5, rs5, ?_⟩
      have k5 := LKS.from x5 k3
      have xx : Ext X.K φ1 H1 φ5 H5 := (x2.trans x3).trans x5
      simp only [RL.nxOnly] at k5
      cases hb2 : m ρ4 S4 with
      | next ρ6 S6 =>
        rw [hb2] at k5
        by_cases c6 : it.chk S6
        · simp only [if_pos c6] at k5
          exact fun φ7 H7 σ7 x7 rs7 re7 => ⟨φ7, ρ6, S6, xx.trans x7, rs7, re7, c6, LKS.from x7 k5⟩
        · simp only [if_neg c6] at k5; exact k5.elim
      | cont ρ6 S6 =>
        rw [hb2] at k5
        by_cases c6 : it.chk S6
        · simp only [if_pos c6] at k5
          exact fun φ7 H7 σ7 x7 rs7 re7 => ⟨φ7, ρ6, S6, xx.trans x7, rs7, re7, c6, LKS.from x7 k5⟩
        · simp only [if_neg c6] at k5; exact k5.elim
      | brk ρ6 S6 => rw [hb2] at k5; exact k5
      | ret d S6 => rw [hb2] at k5; exact k5
      | exn a b S6 => rw [hb2] at k5; exact k5
      | bad => rw [hb2] at k5; exact k5.elim
    | exn a b S4 => rw [hm] at k3; exact k3
    | ret a S4 => rw [hm] at k3; exact k3.elim
    | brk a S4 => rw [hm] at k3; exact k3.elim
    | cont a S4 => rw [hm] at k3; exact k3.elim
    | bad => rw [hm] at k3; exact k3.elim
  · have e : i = it.items.length := by omega
    subst e
    refine .inl ⟨wk.stop φ2 H S2 x2 rs2 c2, ?_⟩
    rw [List.drop_length] at k2
    unfold forM at k2
    exact k2.nx re2 rs2

/-! ### while -/
def whileN (t : MT) (body : MS) : Nat → Env → Store → SRes
  | 0, _, _ => .bad
  | n + 1, ρ, S => ofE (t ρ S) ρ fun c S1 => if c then (match body ρ S1 with
      | .next ρ2 S2 => whileN t body n ρ2 S2
      | .cont ρ2 S2 => whileN t body n ρ2 S2
      | .brk ρ2 S2 => .next ρ2 S2
      | r => r) else .next ρ S1
/-- a while, by a bound of its turns (a number that the proof gives) -/
def sWhile (n : Env → Store → Nat) (t : MT) (body : MS) : MS := fun ρ S => whileN t body (n ρ S) ρ S
theorem ss_while {k : Nat} {body : List Stmt} {nn : Env → Store → Nat} (cc : Ctx X W k) (hc : ST X W c t) (hb : SSs X W body m) : SS X W (.While c body [] pos) (sWhile nn t m) := by
  refine (ps_while cc.po hc hb).imp fun D σ H => ?_
  rintro ⟨φ, ρ, S, re, rs, h⟩
  refine ⟨fun mm σ H => ∃ φ ρ S, RS X.K H φ S ∧ RE X.K H φ ρ σ ∧ LKS X W φ H (whileN t m mm ρ S) D, ⟨nn ρ S, φ, ρ, S, rs, re, h⟩, ?_⟩
  rintro mm σ H ⟨φ2, ρ2, S2, rs2, re2, k2⟩
  cases mm with
  | zero => unfold whileN at k2; exact k2.elim
  | succ mm =>
    unfold whileN at k2
    refine LT.toS re2 rs2 k2 fun d S3 φ3 H3 x3 rs3 re3 k3 => ?_
    cases d with
    | false => exact iteF (LKS.nx k3 re3 rs3)
    | true =>
      refine iteT ⟨fun σ' H' => ∃ φ ρ S, RS X.K H' φ S ∧ RE X.K H' φ ρ σ' ∧ LKS X W φ H' (whileN t m mm ρ S) D, fun σ' H' hN => ⟨mm, Nat.lt_succ_self _, hN⟩, φ3, ρ2, S3, re3, rs3, ?_⟩
      simp only [if_true] at k3
      cases hb2 : m ρ2 S3 with
      | next ρ6 S6 => rw [hb2] at k3; exact fun φ7 H7 σ7 x7 rs7 re7 => ⟨φ7, ρ6, S6, rs7, re7, LKS.from x7 k3⟩
      | cont ρ6 S6 => rw [hb2] at k3; exact fun φ7 H7 σ7 x7 rs7 re7 => ⟨φ7, ρ6, S6, rs7, re7, LKS.from x7 k3⟩
      | brk ρ6 S6 => rw [hb2] at k3; exact k3
      | ret d S6 => rw [hb2] at k3; exact k3
      | exn a b S6 => rw [hb2] at k3; exact k3
      | bad => rw [hb2] at k3; exact k3.elim
end
end RL

namespace RL
open PySem PySem.Spec PyProof.Rows L2

/-! ### list comprehensions -/
def noExn {α : Type} : Res α → Res α
  | .ok a S => .ok a S
  | _ => .bad
abbrev Bnd := D → Env → Option Env
def bNm (i : Nat) : Bnd := fun d ρ => some (ρ.set i (some d))
def bPr (i j : Nat) : Bnd := fun d ρ => match d with
  | .tup [a, b] => some ((ρ.set i (some a)).set j (some b))
  | _ => none
open Classical in
/-- the turns; what was made so far stands in cell n -/
noncomputable def compT (chk : Store → Prop) (bnd : Bnd) (t : MT) (e : ME) (n : Nat) (ρ : Env) : List D → Store → Res Unit
  | [], S => .ok () S
  | x :: xs, S => match bnd x ρ with
    | none => .bad
    | some ρ1 => (noExn (t ρ1 S)).bind fun b S2 =>
      if b then (noExn (e ρ1 S2)).bind fun y S3 => match S3[n]? with
        | some (.lst acc) => if acc.length < sizeLine ∧ chk (S3.set n (.lst (acc ++ [y]))) then compT chk bnd t e n ρ xs (S3.set n (.lst (acc ++ [y]))) else .bad
        | _ => .bad
      else if chk S2 then compT chk bnd t e n ρ xs S2 else .bad
open Classical in
noncomputable def eComp (mi : MI) (bnd : Bnd) (vs : List Nat) (t : MT) (e : ME) : ME := fun ρ S => (mi ρ S).bind fun it S1 =>
  if it.chk (S1 ++ [.lst []]) then (compT it.chk bnd t e S1.length (wipeE ρ vs) it.items (S1 ++ [.lst []])).bind fun _ S2 => .ok (.ptr S1.length) S2 else .bad
def tYesM : MT := fun _ S => .ok true S
/-- the wish within a block: nothing is raised there -/
abbrev W0 : WX := fun _ _ _ _ => False
abbrev blkX (X : Cx) (scope : Scope) (s : Shared) (H : Hp) (C : Addr) (cl : List (Str × Addr)) (fp : List Addr) : Cx := X.blk s H scope (compEnvC scope cl C X.env) fp
section
variable {X : Cx} {W : WX} {k : Nat}
theorem Ctx.blk (c : Ctx X W k) (scope : Scope) (s : Shared) (H : Hp) (C : Addr) (cl : List (Str × Addr)) (fp : List Addr) : Ctx (blkX X scope s H C cl fp) W0 k :=
  ⟨c.hr, takes0, c.calm, c.nd, c.gu, PassesOwn.never⟩
theorem LK.noExn {α : Type} {Y : Cx} {σ τ : L2.St} {φ : List Addr} {H : Hp} {r : Res α} {P : α → Store → List Addr → Hp → Prop} (hK : Y.K = X.K) (h : LK X W σ φ H (RL.noExn r) P) : LK Y W0 τ φ H r P := by
  cases r with
  | ok a S => intro φ' H' x rs; rw [hK] at x rs; exact h φ' H' x rs
  | exn x S => exact h.elim
  | bad => exact h.elim
theorem lk_bind_noExn {α β : Type} {Y : Cx} {σ τ : L2.St} {φ : List Addr} {H : Hp} {r : Res α} {f : α → Store → Res β} {P : β → Store → List Addr → Hp → Prop} (hK : Y.K = X.K) (h : LK X W σ φ H ((RL.noExn r).bind f) P) :
    LK Y W0 τ φ H r fun a S φ' H' => LK X W σ φ' H' (f a S) P := LK.noExn hK (LK.bind h)
variable {elt tg iter : Expr} {ifs : List Expr} {scope : Scope} {own : List (Str × Nat)} {pos : Pos} {mi : MI} {bnd : Bnd} {t : MT} {me : ME}
theorem comp_go {g : TG} {tt : TT} {te : TE} {vs : List Nat} {Y : Cx}
    (hK : Y.K = X.K) (hg : ∀ (d : D) (x : V) (σ : L2.St) (ρ ρ1 : Env) (φ : List Addr) (H : Hp) (Q : L2.St → Hp → Prop), RE X.K H φ ρ σ → RD X.K H φ d x → bnd d (wipeE ρ vs) = some ρ1 →
      (∀ σ2, wipe σ2 vs = wipe σ vs → RE X.K H φ ρ1 σ2 → Q σ2 H) → g x (wipe σ vs) H Q)
    (ht : ∀ σ H Q, LT Y W0 t σ H Q → tt σ H Q) (he : ∀ σ H Q, LE Y W0 me σ H Q → te σ H Q)
    {σ : L2.St} {H : Hp} {Q : VK} (h : LE X W (eComp mi bnd vs t me) σ H Q) : tLc (LI X W mi) g tt te vs σ H Q := by
  obtain ⟨φ, ρ, S, re, rs, h⟩ := h
  refine ⟨φ, ρ, S, re, rs, (LK.bind h).mono fun it S1 φ1 H1 x1 rs1 kk J wk D hD => ?_⟩
  obtain ⟨z1, z2, z3⟩ := od_newC rs1 (RDs.nil (K := X.K) (H := H1) (φ := φ1)) hD
  have hc : it.chk (S1 ++ [.lst []]) := by
    by_cases hc : it.chk (S1 ++ [.lst []])
    · exact hc
    · rw [if_neg hc] at kk; exact kk.elim
  rw [if_pos hc] at kk
  have hn0 : (φ1 ++ [D])[S1.length]? = some D := by rw [← rs1.len, List.getElem?_append_right (Nat.le_refl _), Nat.sub_self]; rfl
  refine ⟨fun i mm H => mm = it.items.length - i ∧ i ≤ it.items.length ∧ ∃ φ S, Ext X.K φ1 H1 φ H ∧ φ[S1.length]? = some D ∧ RS X.K H φ S ∧ it.chk S ∧
      LK X W σ φ H (compT it.chk bnd t me S1.length (wipeE ρ vs) (it.items.drop i) S) (fun _ S2 φ' H' => ∀ v, RD X.K H' φ' (.ptr S1.length) v → Q v H'),
    ⟨it.items.length, rfl, Nat.zero_le _, φ1 ++ [D], S1 ++ [.lst []], z2, hn0, z1, hc, by rw [List.drop_zero]; exact (LK.bind (LK.from z2 kk)).mono fun _ S2 φ' H' xx rr q => q.ok rr⟩, ?_⟩
  rintro i mm H ⟨rfl, hil, φ2, S2, x2, hn2, rs2, c2, k2⟩
  by_cases hlt : i < it.items.length
  · refine .inr ⟨wk.go i φ2 H S2 hlt x2 rs2 c2, fun H' => ∃ φ S, Ext X.K φ1 H1 φ H' ∧ φ[S1.length]? = some D ∧ RS X.K H' φ S ∧ it.chk S ∧
        LK X W σ φ H' (compT it.chk bnd t me S1.length (wipeE ρ vs) (it.items.drop (i + 1)) S) (fun _ S2 φ' H' => ∀ v, RD X.K H' φ' (.ptr S1.length) v → Q v H'),
      fun H' hN => ⟨it.items.length - (i + 1), by omega, rfl, hlt, hN⟩, fun x H' y => ?_⟩
    obtain ⟨d, hd, x3, rs3, rd3⟩ := wk.yld i φ2 H S2 x H' hlt x2 rs2 c2 y
    have hdr : it.items.drop i = d :: it.items.drop (i + 1) := by
      rw [List.drop_eq_getElem_cons hlt]
      have : it.items[i] = d := by rw [List.getElem?_eq_getElem hlt] at hd; exact Option.some.inj hd
      rw [this]
    have k3 := LK.from x3 k2
    rw [hdr] at k3
    unfold compT at k3
    have x23 := x2.trans x3
    cases hb : bnd d (wipeE ρ vs) with
    | none => rw [hb] at k3; exact k3.elim
    | some ρ1 =>
      rw [hb] at k3
      refine hg d x σ ρ ρ1 φ2 H' _ (re.mono (x1.trans x23)) rd3 hb fun σ2 hw re2 => ⟨hw, ht σ2 H' _ ⟨φ2, ρ1, S2, hK ▸ re2, hK ▸ rs3, (lk_bind_noExn hK k3).mono fun b S4 φ4 H4 x4 rs4 k4 => ?_⟩⟩
      rw [hK] at x4 rs4
      cases b with
      | false =>
        rw [if_neg Bool.false_ne_true] at k4 ⊢
        by_cases c4 : it.chk S4
        · rw [if_pos c4] at k4
          exact ⟨φ4, S4, x23.trans x4, x4.pre _ _ hn2, rs4, c4, k4⟩
        · rw [if_neg c4] at k4; exact k4.elim
      | true =>
        rw [if_pos rfl] at k4 ⊢
        refine he σ2 H4 _ ⟨φ4, ρ1, S4, hK ▸ (re2.mono x4), hK ▸ rs4, (lk_bind_noExn hK k4).mono fun y S5 φ5 H5 x5 rs5 k5 v rv => ?_⟩
        rw [hK] at x5 rs5 rv
        split at k5
        · rename_i acc hS
          split at k5
          · rename_i hz
            obtain ⟨a, q1, xs, q2, q3⟩ := rs5.at hS
            have e1 := x5.pre _ _ (x4.pre _ _ hn2)
            rw [q1] at e1; cases e1
            obtain ⟨w1, w2⟩ := rs5.write hS q1 q2 (q3.append (RDs.cons rv RDs.nil))
            exact ⟨xs, q2, by rw [q3.length]; exact hz.1, φ5, _, ((x23.trans x4).trans x5).trans w2, q1, w1, hz.2, LK.from w2 k5⟩
          · exact k5.elim
        · exact k5.elim
  · have e : i = it.items.length := by omega
    subst e
    refine .inl ⟨wk.stop φ2 H S2 x2 rs2 c2, ?_⟩
    rw [List.drop_length] at k2
    unfold compT at k2
    refine k2.ok rs2 _ ?_
    unfold RD
    exact ⟨D, hn2, rfl⟩
/-- [elt for x in iter], [elt for x in iter if t] -/
theorem se_comp {x : Str} {i : Nat} {ti : Pos} (c : Ctx X W k) (hi : SI X W (.Name x ti) iter mi) (ok : BlkOk X.N X.env.scope scope [(x, i)])
    (hg : ∀ s H C cl fp, PG (blkX X scope s H C cl fp) (.Name x ti) (gName i))
    (ht : ∀ s H C cl fp, PTs (blkX X scope s H C cl fp) ifs (LT (blkX X scope s H C cl fp) W0 t)) (he : ∀ s H C cl fp, SE (blkX X scope s H C cl fp) W0 elt me) (hs : ∀ x, foldedSetIterable iter X.env x = pure x := by intro _; rfl) :
    SE X W (.ListComp elt [⟨.Name x ti, iter, ifs, 0⟩] scope pos) (eComp mi (bNm i) [i] t me) := by
  refine (pe_lc (wi := LI X W mi) (g := gName i) (tt := LT X W0 t) (te := LE X W0 me) c.calm c.nd hi ok hg ht he hs).imp fun σ H Q h => ?_
  refine comp_go (Y := X) (t := t) (me := me) (bnd := bNm i) rfl (fun d x σ ρ ρ1 φ H Q re rd hb q => ?_) (fun _ _ _ h => h) (fun _ _ _ h => h) h
  cases hb
  refine q _ ?_ ((re.wipe [i]).set i rd)
  show ((σ.set i none).set i (some x)).set i none = σ.set i none
  rw [List.set_set, List.set_set]
/-- .. over pairs -/
theorem se_comp2 {x y : Str} {i j k' : Nat} {ti tj tp : Pos} (c : Ctx X W k) (hij : i ≠ j) (hi : SI X W (.Tuple [.Name x ti, .Name y tj] k' tp) iter mi) (ok : BlkOk X.N X.env.scope scope [(x, i), (y, j)])
    (hg : ∀ s H C cl fp, PG (blkX X scope s H C cl fp) (.Tuple [.Name x ti, .Name y tj] k' tp) (gTup X.K 2 (gCons (gName i) (gCons (gName j) gNil))))
    (ht : ∀ s H C cl fp, PTs (blkX X scope s H C cl fp) ifs (LT (blkX X scope s H C cl fp) W0 t)) (he : ∀ s H C cl fp, SE (blkX X scope s H C cl fp) W0 elt me) (hs : ∀ x, foldedSetIterable iter X.env x = pure x := by intro _; rfl) :
    SE X W (.ListComp elt [⟨.Tuple [.Name x ti, .Name y tj] k' tp, iter, ifs, 0⟩] scope pos) (eComp mi (bPr i j) [i, j] t me) := by
  refine (pe_lc (wi := LI X W mi) (g := gTup X.K 2 (gCons (gName i) (gCons (gName j) gNil))) (tt := LT X W0 t) (te := LE X W0 me) c.calm c.nd hi ok hg ht he hs).imp fun σ H Q h => ?_
  refine comp_go (Y := X) (t := t) (me := me) (bnd := bPr i j) rfl (fun d x σ ρ ρ1 φ H Q re rd hb q => ?_) (fun _ _ _ h => h) (fun _ _ _ h => h) h
  unfold bPr at hb
  split at hb
  · rename_i a b
    cases hb
    unfold RD at rd
    obtain ⟨p, xs, rfl, s, r⟩ := rd
    obtain ⟨v, u, rfl, r1, r2⟩ := r.two
    refine ⟨p, _, rfl, s, rfl, v, _, rfl, u, _, rfl, rfl, q _ ?_ (((re.wipe [i, j]).set i r1).set j r2)⟩
    show ((((((σ.set j none).set i none).set i (some v)).set j (some u)).set j none).set i none) = (σ.set j none).set i none
    generalize hA : List.set σ j none = A
    have hA2 : A.set j none = A := by rw [← hA, List.set_set]
    have e1 : (A.set i none).set i (some v) = A.set i (some v) := List.set_set ..
    have e2 : ((A.set i (some v)).set j (some u)).set j none = (A.set i (some v)).set j none := List.set_set ..
    have e3 : (A.set i (some v)).set j none = (A.set j none).set i (some v) := List.set_comm _ _ hij
    have e4 : (A.set i (some v)).set i none = A.set i none := List.set_set ..
    rw [e1, e2, e3, hA2, e4]
  · cases hb
end
end RL

namespace RL
open PySem PySem.Spec PyProof.Rows L2

/-! ### what a def is worth -/
def LKF (K : PySem.W.Frag) (mg : Str → Option Value) (φ : List Addr) (H : Hp) (r : Res D) (Q : VK) (E : XK) : Prop :=
  match r with
  | .ok d S' => ∀ φ' H' v, Ext K φ H φ' H' → RS K H' φ' S' → RD K H' φ' d v → Q v H'
  | .exn x S' => ∀ φ' H' cls dd, Ext K φ H φ' H' → RS K H' φ' S' → RX K H' φ' mg x cls dd → E cls dd H'
  | .bad => False
def SpF (K : PySem.W.Frag) (mg : Str → Option Value) (n : Nat) (F : Fn) : Sp := fun vs H Q E => ∃ φ ds S, RDs K H φ ds vs ∧ ds.length = n ∧ RS K H φ S ∧ LKF K mg φ H (F ds S) Q E
structure FnG (P : Program) (w : World) (K : PySem.W.Frag) (mg : Str → Option Value) (base : Heap) (k : Nat) (f : Addr) (fd : FuncData) (ps : List Str) (F : Fn) : Prop where
  run : ∀ (A : Around) (outer : List PySem.Env) (s : Shared) (H : Hp) (args : Args) (us : List Value) (vs : List V) (Q : VK) (E : XK), Room k A → A.guards = some [] → L2.Env0 P w K mg base A outer s H →
    BindsTo s fd args (ps.zip us) → Vals vs us → SpF K mg ps.length F vs H Q E → codeAny (model P w) A (.call (.ref f) args) (CR (L2.CX P w) outer P w H s Q E) s

theorem FnG.mono {P : Program} {w : World} {K : PySem.W.Frag} {mg : Str → Option Value} {base : Heap} {j k : Nat} {f : Addr} {fd : FuncData} {ps : List Str} {F : Fn} (G : FnG P w K mg base j f fd ps F) (h : j ≤ k) : FnG P w K mg base k f fd ps F :=
  ⟨fun A outer s H args us vs Q E hr => G.run A outer s H args us vs Q E (hr.mono h)⟩
def mBody (n : Nat) (b : MS) : Fn := fun ds S => match b (ds.map some ++ List.replicate (n - ds.length) none) S with
  | .next _ S' => .ok .non S'
  | .ret d S' => .ok d S'
  | .exn x _ S' => .exn x S'
  | _ => .bad
/-- the wish of a def's body -/
abbrev WD (E : XK) : WX := fun cls d _ H => E cls d H
section
variable {P : Program} {w : World} {K : PySem.W.Frag} {mg : Str → Option Value} {base : Heap}
/-- a def as it stands behind the top, whatever its defaults -/
structure FunX (K : PySem.W.Frag) (x qual : Str) (st : Stmt) (f : Addr) (fd : FuncData) : Prop where
  ex : ∃ (oc : Value) (od : Option Addr) (dV kV doc pm : Value) (an : Option Addr) (cdv ct : Value) (osl : Array (Option Value)),
    fd = PySem.W.fnOf x qual (defArgs st) (defBody st) (defScope st) dV kV doc pm an cdv ct ∧ K.lookup f = some ⟨oc, od, .func fd, osl⟩ ∧ PySem.W.codeIn K cdv qual = true
  kp : PySem.W.keepIn K (.ref f) = true
theorem _root_.L2.Fun.toX {x qual : Str} {st : Stmt} {f : Addr} {fd : FuncData} (F : Fun K x qual st f fd) : FunX K x qual st f fd := by
  obtain ⟨oc, od, kV, doc, pm, an, cdv, ct, osl, h⟩ := F.ex
  exact ⟨⟨oc, od, .none, kV, doc, pm, an, cdv, ct, osl, h⟩, F.kp⟩
theorem fn_soundX {x qual : Str} {st : Stmt} {f : Addr} {fd : FuncData} {N ps : List Str} {k : Nat} {b : MS} (F : FunX K x qual st f fd) (S : FnScope N ps (defScope st))
    (hb : ∀ (cdv : Value) (A : Around) (outer : List PySem.Env) (s : Shared) (H : Hp) (E : XK),
      Ctx (cxOf (L2.CX P w) P w K mg base N qual (defScope st) f cdv A outer s H E) (WD E) k → SSs (cxOf (L2.CX P w) P w K mg base N qual (defScope st) f cdv A outer s H E) (WD E) (defBody st) b) :
    FnG P w K mg base (k + 1) f fd ps (mBody N.length b) := by
  obtain ⟨oc, od, dV, kV, doc, pm, an, cdv, ct, osl, rfl, lk, hcd⟩ := F.ex
  refine ⟨fun A outer s₀ H args us vs Q E room gu env0 bnd rv sp => ?_⟩
  obtain ⟨φ, ds, St, rds, dlen, rs, want⟩ := sp
  have vlen : vs.length = ps.length := by rw [rds.length, dlen]
  have inK : K.In s₀.heap := env0.mod.kin.keeps fun a o h => (env0.bs a o h).1
  have noL : s₀.heap.NoLimit := env0.mod.nolimit.keeps fun a o h => (env0.bs a o h).1
  refine codeAny_call_function room.depth (inK _ _ lk) rfl S.co S.gen rfl (PySem.W.codeRec_of inK hcd) (bnd _ _ _ _ ?_)
  refine wpAny_newFunctionEnv_cells S.kind ?kinds fun en hen s₁ call => ?_
  case kinds =>
    rintro ⟨nm, val⟩ hm
    rcases S.par nm (List.of_mem_zip hm).1 with q | q
    · exact .inl q
    · exact .inr ⟨q, PySem.W.cellsFrom_some _ _ _ (.inl q)⟩
  subst hen
  refine ⟨noL.keeps call.toInCall.keep, codeAny_func ?_⟩
  have body := hb cdv A outer s₀ H E ⟨room.deeper _, takes_of rfl rfl rfl rfl, rfl, S.nd, gu, passes_of rfl⟩
  have inv := inv_start (CX := L2.CX P w) (E := E) (N := N) (cd := cdv) (f := f) (qual := qual) S room.hd env0 vlen rv call
  refine wpAny_mono (body.run [] s₁ (L2.start N vs) H { nx := fun _ H' => Q .non H', rt := Q } inv ⟨φ, ds.map some ++ List.replicate (N.length - ds.length) none, St, ?env, rs, ?goal⟩) ?_ (fun _ _ hx => hx)
  case env =>
    unfold L2.start
    rw [rds.length]
    exact RE.start _ rds
  case goal =>
    unfold mBody at want
    cases hbb : b (ds.map some ++ List.replicate (N.length - ds.length) none) St with
    | next ρ' S' => rw [hbb] at want; exact fun φ' H' σ' x z _ => want φ' H' .non x z rd_non
    | ret d S' => rw [hbb] at want; exact want
    | exn y ρ' S' => rw [hbb] at want; exact fun φ' H' σ' cls dd x z _ q => want φ' H' cls dd x z q
    | brk ρ' S' => rw [hbb] at want; exact want.elim
    | cont ρ' S' => rw [hbb] at want; exact want.elim
    | bad => rw [hbb] at want; exact want.elim
  · intro fl s' out
    cases fl with
    | ret u =>
      obtain ⟨v, σ', H', J, ru, q⟩ := out
      exact ⟨v, H', J.os, J.bare, J.base, J.hok, ru, q⟩
    | next =>
      obtain ⟨σ', H', J, q⟩ := out
      exact ⟨.non, H', J.os, J.bare, J.base, J.hok, rfl, q⟩
    | brk => obtain ⟨_, _, _, q⟩ := out; exact q.elim
    | cont => obtain ⟨_, _, _, q⟩ := out; exact q.elim
theorem fn_sound {x qual : Str} {st : Stmt} {f : Addr} {fd : FuncData} {N ps : List Str} {k : Nat} {b : MS} (F : Fun K x qual st f fd) (S : FnScope N ps (defScope st))
    (hb : ∀ (cdv : Value) (A : Around) (outer : List PySem.Env) (s : Shared) (H : Hp) (E : XK),
      Ctx (cxOf (L2.CX P w) P w K mg base N qual (defScope st) f cdv A outer s H E) (WD E) k → SSs (cxOf (L2.CX P w) P w K mg base N qual (defScope st) f cdv A outer s H E) (WD E) (defBody st) b) :
    FnG P w K mg base (k + 1) f fd ps (mBody N.length b) := fn_soundX F.toX S hb
end

/-! ### calls of defs -/
def pickL {α : Type} (l : List α) : List Nat → List α
  | [] => []
  | i :: is => match l[i]? with
    | some a => a :: pickL l is
    | none => pickL l is
theorem RDs.pick {K : PySem.W.Frag} {H : Hp} {φ : List Addr} {ds : List D} {vs : List V} (r : RDs K H φ ds vs) : ∀ is, RDs K H φ (pickL ds is) (pickL vs is)
  | [] => RDs.nil
  | i :: is => by
    unfold pickL
    cases hd : ds[i]? with
    | some d =>
      obtain ⟨v, h1, h2⟩ := r.get hd
      rw [h1]
      exact RDs.cons h2 (r.pick is)
    | none =>
      have h1 : vs[i]? = none := by
        rw [List.getElem?_eq_none_iff] at hd ⊢
        rw [r.length]; exact hd
      rw [h1]
      exact r.pick is
theorem vals_pick {vs : List V} {us : List Value} (r : Vals vs us) : ∀ is, Vals (pickL vs is) (pickL us is)
  | [] => .nil
  | i :: is => by
    unfold pickL
    cases hd : vs[i]? with
    | some d =>
      obtain ⟨v, h1, h2⟩ := r.get hd
      rw [h1]
      exact .cons h2 (vals_pick r is)
    | none =>
      rw [r.none_of hd]
      exact vals_pick r is
section
variable {X : Cx} {W : WX} {k k' : Nat} {f : Addr} {fd : FuncData} {ps ks : List Str} {F : Fn} {x : Str} {p pos kpos : Pos} {e : Expr} {es : List Expr} {kws : List Keyword} {ms mk : MA} {me : ME} {nm : Option Str}
theorem run_fnG {pins : List (Addr × Obj)} {σ : L2.St} {φ : List Addr} {H : Hp} {s : Shared} {S : Store} {Q : VK} {args : Args} {us : List Value} {vs : List V} {ds : List D} (c : Ctx X W k') (G : FnG X.prog X.w X.K X.mg X.base k f fd ps F) (hk : k ≤ k')
    (bnd : BindsTo s fd args (ps.zip us)) (I : Inv X pins σ H s) (rv : Vals vs us) (rd : RDs X.K H φ ds vs) (hl : ds.length = ps.length) (rs : RS X.K H φ S) (h : LK X W σ φ H (F ds S) fun d _ φ' H' => ∀ v, RD X.K H' φ' d v → Q v H') :
    codeAny (model X.prog X.w) X.A (.call (.ref f) args) (callEnd (EP X pins σ Q) X.xe) s := by
  refine codeAny_mono (G.run X.A X.stack s H args us vs Q (WE W σ) (c.hr.mono hk) c.gu I.env0 bnd rv ⟨φ, ds, S, rd, hl, rs, ?_⟩) fun r s' hq => ?_
  · cases hF : F ds S with
    | ok d S' => rw [hF] at h; exact fun φ' H' v y z q => h φ' H' y z v q
    | exn y S' => rw [hF] at h; exact h
    | bad => rw [hF] at h; exact h
  · cases r with
    | error e => exact passAt c.tk σ pins H s e s' I hq
    | ok fl =>
      cases fl with
      | ret u => exact I.after hq
      | next => exact False.elim hq
      | brk => exact False.elim hq
      | cont => exact False.elim hq
/-- f of as many values as it has parameters -/
def eFn1 (n : Nat) (F : Fn) (ms : MA) : ME := fun ρ S => (ms ρ S).bind fun xs S1 => if xs.length = n then F xs S1 else .bad
/-- f(e, ..), all by position -/
theorem se_call (c : Ctx X W k') (G : FnG X.prog X.w X.K X.mg X.base k f fd ps F) (hk : k ≤ k') (hm : X.mg x = some (.ref f)) (kp : PySem.W.keepIn X.K (.ref f) = true) (hb : Binds X.K fd ps []) (n : Nat) (hn : n = ps.length)
    (ha : SA X W (e :: es) ms) (hg : Gl X x := by rfl) (hdb : (x == ("__debug__" : Str)) = false := by decide) (he : starEach (e :: es) X.env = (false, eval e X.env) :: starEach es X.env := by rfl) (hpl : (backTo pos (starEach es X.env)).any (·.1) = false := by rfl) :
    SE X W (.Call (.Name x p) (e :: es) [] pos) (eFn1 n F ms) := by
  refine ⟨fun pins s σ H Q I h => ?_⟩
  refine wpAny_Call_Name_kw (ld_glob I hg hm ?_ hdb)
  obtain ⟨φ, ρ, S, re, rs, h⟩ := h
  have go : LA X W ms σ H fun vs H1 => ∀ pins s1 us, Inv X pins σ H1 s1 → Vals vs us → codeAny (model X.prog X.w) X.A (.call (.ref f) ⟨us, []⟩) (callEnd (EP X pins σ Q) X.xe) s1 := by
    refine LA.to re rs h fun xs S1 φ1 H1 vs x1 rs1 re1 rx h1 pins1 s1 us I1 rv => ?_
    split at h1
    · rename_i hl
      have hl2 : us.length = ps.length := by rw [← rv.length, rx.length, hl, hn]
      refine run_fnG (us := us) c G hk ?_ I1 rv rx (hl.trans hn) rs1 h1
      have := hb s1 us I1.kIn (by rw [List.append_nil]; exact hl2)
      rw [List.append_nil] at this
      exact this
    · exact h1.elim
  exact PySem.W.callWith_K (h₀ := X.base) I.ok.mod.kin kp (thn (ha.run pos pins s σ H _ I go) fun us s1 ⟨vs, H1, I1, rv, q⟩ => ⟨I1.kIn, wpAny_call (q pins s1 us I1 rv)⟩) he hpl
/-- f() -/
theorem se_call0 (c : Ctx X W k') (G : FnG X.prog X.w X.K X.mg X.base k f fd [] F) (hk : k ≤ k') (hm : X.mg x = some (.ref f)) (kp : PySem.W.keepIn X.K (.ref f) = true) (hb : Binds X.K fd [] [])
    (hg : Gl X x := by rfl) (hdb : (x == ("__debug__" : Str)) = false := by decide) : SE X W (.Call (.Name x p) [] [] pos) (fun _ S => F [] S) := by
  refine ⟨fun pins s σ H Q I h => ?_⟩
  refine wpAny_Call_Name_kw (ld_glob I hg hm ?_ hdb)
  obtain ⟨φ, ρ, S, re, rs, h⟩ := h
  refine PySem.W.callWith_K0 I.kIn kp (wpAny_call (run_fnG (us := []) (vs := []) (ds := []) c G hk ?_ I .nil RDs.nil rfl rs h))
  exact hb s [] I.kIn rfl
/-! keywords: the places of the parameters among the positional, the keywords' and the default values -/
abbrev SK (X : Cx) (W : WX) (kws : List Keyword) (m : MA) : Prop := PK X kws (LA X W m)
theorem _root_.L2.PK.imp {X : Cx} {e : List Keyword} {t t' : TA} (h : PK X e t) (i : ∀ σ H Q, t' σ H Q → t σ H Q) : PK X e t' := ⟨fun pos pins s σ H Q I q => h.run pos pins s σ H Q I (i σ H Q q)⟩
theorem sk_nil : SK X W [] aNil := by
  refine pk_nil.imp fun σ H Q => ?_
  rintro ⟨φ, ρ, S, re, rs, h⟩
  exact h.ok rs [] RDs.nil
theorem sk_cons (ha : SE X W e me) (hr : SK X W kws ms) : SK X W (⟨nm, e, kpos⟩ :: kws) (aCons me ms) := by
  refine (pk_cons ha hr).imp fun σ H Q => ?_
  rintro ⟨φ, ρ, S, re, rs, h⟩
  exact LE.to re rs h fun x S1 φ1 H1 vx x1 rs1 re1 rx h1 => LA.to re1 rs1 h1 fun xs S2 φ2 H2 vs x2 rs2 re2 rxs h2 => h2.ok rs2 _ (RDs.cons (rx.mono x2) rxs)
/-- how a call binds: n values by position, the keywords ks, the defaults dus -/
def BindsK (K : PySem.W.Frag) (fd : FuncData) (ps ks : List Str) (n : Nat) (dus : List Value) (is : List Nat) : Prop :=
  ∀ (s : Shared) (us ws : List Value), K.In s.heap → us.length = n → ws.length = ks.length → BindsTo s fd ⟨us, ks.zip ws⟩ (ps.zip (pickL (us ++ ws ++ dus) is))
def eFnK (n m np : Nat) (is : List Nat) (dd : List D) (F : Fn) (ms mk : MA) : ME := fun ρ S => (ms ρ S).bind fun xs S1 => (mk ρ S1).bind fun ys S2 =>
  if xs.length = n ∧ ys.length = m ∧ (pickL (xs ++ ys ++ dd) is).length = np then F (pickL (xs ++ ys ++ dd) is) S2 else .bad
/-- a default value: no object -/
def flatD : D → V → Prop
  | .non, v => v = .non
  | .bl b, v => v = .bl b
  | .int i, v => v = .int i
  | .str s, v => v = .str s
  | _, _ => False
theorem flat_rd {K : PySem.W.Frag} {H : Hp} {φ : List Addr} {d : D} {v : V} (h : flatD d v) : RD K H φ d v := by
  cases d with
  | non => unfold RD; exact h
  | bl b => unfold RD; exact h
  | int b => unfold RD; exact h
  | str b => unfold RD; exact h
  | tup b => exact h.elim
  | ptr b => exact h.elim
theorem flat_rds {K : PySem.W.Frag} {H : Hp} {φ : List Addr} : ∀ {ds : List D} {vs : List V}, Paired flatD ds vs → RDs K H φ ds vs
  | _, _, .nil => RDs.nil
  | _, _, .cons h t => RDs.cons (flat_rd h) (flat_rds t)
theorem runK {pins : List (Addr × Obj)} {σ : L2.St} {φ φ2 : List Addr} {H H2 : Hp} {s : Shared} {S2 : Store} {Q : VK} {us ws dus : List Value} {vs zs dvs : List V} {xs ys dd : List D} {n m np : Nat} {is : List Nat} (c : Ctx X W k') (G : FnG X.prog X.w X.K X.mg X.base k f fd ps F) (hk : k ≤ k')
    (hb : BindsK X.K fd ps ks n dus is) (hd : Vals dvs dus) (hf : Paired flatD dd dvs) (hm : m = ks.length) (hp : np = ps.length) (I : Inv X pins σ H2 s) (rv : Vals vs us) (rz : Vals zs ws) (rx : RDs X.K H2 φ2 xs vs) (ry : RDs X.K H2 φ2 ys zs) (rs : RS X.K H2 φ2 S2)
    (h : LK X W σ φ2 H2 (if xs.length = n ∧ ys.length = m ∧ (pickL (xs ++ ys ++ dd) is).length = np then F (pickL (xs ++ ys ++ dd) is) S2 else .bad) fun d _ φ' H' => ∀ v, RD X.K H' φ' d v → Q v H') :
    codeAny (model X.prog X.w) X.A (.call (.ref f) ⟨us, ks.zip ws⟩) (callEnd (EP X pins σ Q) X.xe) s := by
  split at h
  · rename_i hl
    refine run_fnG (us := pickL (us ++ ws ++ dus) is) (vs := pickL (vs ++ zs ++ dvs) is) c G hk (hb s us ws I.kIn ?_ ?_) I (vals_pick ((rv.append rz).append hd) is) (((rx.append ry).append (flat_rds hf)).pick is) (hl.2.2.trans hp) rs h
    · rw [← rv.length, rx.length]; exact hl.1
    · rw [← rz.length, ry.length, ← hm]; exact hl.2.1
  · exact h.elim
theorem se_callK (c : Ctx X W k') (G : FnG X.prog X.w X.K X.mg X.base k f fd ps F) (hk : k ≤ k') (hm : X.mg x = some (.ref f)) (kp : PySem.W.keepIn X.K (.ref f) = true) {n m np : Nat} {is : List Nat} {dus : List Value} {dvs : List V} {dd : List D} (hb : BindsK X.K fd ps ks n dus is) (hd : Vals dvs dus) (hf : Paired flatD dd dvs)
    (hmm : m = ks.length) (hnp : np = ps.length) (ha : SA X W (e :: es) ms) (hkw : SK X W kws mk) (hall : (backToKw pos (keywordEach kws X.env)).all (·.1.isSome) = true := by rfl) (hks : (backToKw pos (keywordEach kws X.env)).filterMap (·.1) = ks := by rfl) (hg : Gl X x := by rfl) (hdb : (x == ("__debug__" : Str)) = false := by decide)
    (he : starEach (e :: es) X.env = (false, eval e X.env) :: starEach es X.env := by rfl) (hpl : ((backTo pos (starEach (e :: es) X.env)).any (·.1) || (backToKw pos (keywordEach kws X.env)).any (·.1.isNone)) = false := by rfl) :
    SE X W (.Call (.Name x p) (e :: es) kws pos) (eFnK n m np is dd F ms mk) := by
  refine ⟨fun pins s σ H Q I h => ?_⟩
  refine wpAny_Call_Name_kw (ld_glob I hg hm ?_ hdb)
  obtain ⟨φ, ρ, S, re, rs, h⟩ := h
  have go : LA X W ms σ H fun vs H1 => LA X W mk σ H1 fun zs H2 => ∀ pins s1 us ws, Inv X pins σ H2 s1 → Vals vs us → Vals zs ws → codeAny (model X.prog X.w) X.A (.call (.ref f) ⟨us, ks.zip ws⟩) (callEnd (EP X pins σ Q) X.xe) s1 :=
    LA.to re rs h fun xs S1 φ1 H1 vs x1 rs1 re1 rx h1 => LA.to re1 rs1 h1 fun ys S2 φ2 H2 zs x2 rs2 re2 ry h2 pins1 s1 us ws I1 rv rz =>
      runK (φ := φ) (H := H) c G hk hb hd hf hmm hnp I1 rv rz (rx.mono x2) ry rs2 h2
  refine PySem.W.callWith_KW (h₀ := X.base) I.ok.mod.kin kp hall (thn (ha.run pos pins s σ H _ I go) fun us s1 ⟨vs, H1, I1, rv, q⟩ => ?_) hpl he
  refine thn (hkw.run pos pins s1 σ H1 _ I1 q) fun ws s2 ⟨zs, H2, I2, rz, q2⟩ => ⟨I2.kIn, ?_⟩
  rw [hks]
  exact wpAny_call (q2 pins s2 us ws I2 rv rz)
theorem se_callK0 (c : Ctx X W k') (G : FnG X.prog X.w X.K X.mg X.base k f fd ps F) (hk : k ≤ k') (hm : X.mg x = some (.ref f)) (kp : PySem.W.keepIn X.K (.ref f) = true) {m np : Nat} {is : List Nat} {dus : List Value} {dvs : List V} {dd : List D} (hb : BindsK X.K fd ps ks 0 dus is) (hd : Vals dvs dus) (hf : Paired flatD dd dvs)
    (hmm : m = ks.length) (hnp : np = ps.length) (hkw : SK X W kws mk) (hall : (backToKw pos (keywordEach kws X.env)).all (·.1.isSome) = true := by rfl) (hks : (backToKw pos (keywordEach kws X.env)).filterMap (·.1) = ks := by rfl) (hg : Gl X x := by rfl) (hdb : (x == ("__debug__" : Str)) = false := by decide)
    (hpl : ((backTo pos (starEach [] X.env)).any (·.1) || (backToKw pos (keywordEach kws X.env)).any (·.1.isNone)) = false := by rfl) :
    SE X W (.Call (.Name x p) [] kws pos) (eFnK 0 m np is dd F aNil mk) := by
  refine ⟨fun pins s σ H Q I h => ?_⟩
  refine wpAny_Call_Name_kw (ld_glob I hg hm ?_ hdb)
  obtain ⟨φ, ρ, S, re, rs, h⟩ := h
  have h : LK X W σ φ H ((mk ρ S).bind fun ys S2 => if ([] : List D).length = 0 ∧ ys.length = m ∧ (pickL ([] ++ ys ++ dd) is).length = np then F (pickL ([] ++ ys ++ dd) is) S2 else .bad) fun d _ φ' H' => ∀ v, RD X.K H' φ' d v → Q v H' := h
  have go : LA X W mk σ H fun zs H2 => ∀ pins s1 ws, Inv X pins σ H2 s1 → Vals zs ws → codeAny (model X.prog X.w) X.A (.call (.ref f) ⟨[], ks.zip ws⟩) (callEnd (EP X pins σ Q) X.xe) s1 :=
    LA.to re rs h fun ys S2 φ2 H2 zs x2 rs2 re2 ry h2 pins1 s1 ws I1 rz =>
      runK (φ := φ) (H := H) c G hk hb hd hf hmm hnp I1 (us := []) (vs := []) .nil rz RDs.nil ry rs2 h2
  refine PySem.W.callWith_KW0 (h₀ := X.base) I.ok.mod.kin kp hall ?_ hpl
  refine thn (hkw.run pos pins s σ H _ I go) fun ws s2 ⟨zs, H2, I2, rz, q2⟩ => ⟨I2.kIn, ?_⟩
  rw [hks]
  exact wpAny_call (q2 pins s2 ws I2 rz)
end
end RL

namespace RL
open PySem PySem.Spec PyProof.Rows L2

/-! ### the law's call -/
/-- the law's def gives True, whatever the script -/
def LawTrue (n : Nat) (F : Fn) : Prop := ∀ ns : List Int, ns.length ≤ n → (∀ z ∈ ns, Builtin.Int.intBits z ≤ 1048576) → ∃ S', F [.ptr 0] [.rol (ns.map D.int)] = .ok (.bl true) S'
theorem rds_ints {K : PySem.W.Frag} {H : Hp} {φ : List Addr} : ∀ ns : List Int, RDs K H φ (ns.map D.int) (ns.map V.int)
  | [] => RDs.nil
  | n :: ns => RDs.cons rd_int (rds_ints ns)
theorem law_callG {P : Program} {w : World} {K : PySem.W.Frag} {mg mb : Str → Option Value} {k n : Nat} {fa a : Addr} {fd : FuncData} {x : Str} {F : Fn} {st : Shared} {vs : List Value} {ns : List Int}
    (inK : K.In st.heap) (nsG : st.heap.Ns mainGlobals mg) (nsB : st.heap.Ns builtinsNs mb) (isB : ∀ x : Str, x ≠ "__name__" → mb x = bootBuiltins x) (noL : st.heap.NoLimit) (noG : st.gens = #[])
    (obj : st.heap.get? a = some { cls := .type "list", data := .seq vs.toArray }) (areInts : IntsAre vs ns) (few : ns.length ≤ n) (line : n ≤ sizeLine) (bits : ∀ z ∈ ns, Builtin.Int.intBits z ≤ 1048576) (room : Room k callerA)
    (G : ∀ base : Heap, K.In base → base.Ns mainGlobals mg → FnG P w K mg base k fa fd [x] F) (bnd : ∀ (s : Shared) (u : Value), BindsTo s fd ⟨[u], []⟩ [(x, u)]) (true_ : LawTrue n F) :
    codeAny (model P w) callerA (.call (.ref fa) ⟨[.ref a], []⟩) (fun r s' => r = .ok (.ret (.bool true)) ∧ OldK st.heap s'.heap ∧ s'.os = st.os ∧ AllBare s'.gens) st := by
  have valsV := vals_ints areInts
  have sameLen := areInts.length
  obtain ⟨S', runs⟩ := true_ ns few bits
  -- by the abstract heap that tracks the script or nothing
  have core : ∀ (T : Hp), (∀ b, T b = none ∨ (b = a ∧ ∃ o, T b = some (.frz o (.lst (ns.map V.int))))) → RC K T [a] (.rol (ns.map D.int)) a → HOk P w T st.heap → (T a ≠ none → K.lookup a = none) →
      codeAny (model P w) callerA (.call (.ref fa) ⟨[.ref a], []⟩) (fun r s' => r = .ok (.ret (.bool true)) ∧ OldK st.heap s'.heap ∧ s'.os = st.os ∧ AllBare s'.gens) st := by
    intro T only cell ok apart
    have list_no_dict : ∀ {b : Addr} {o : Obj} {es : Array DictEntry} {ep : Nat}, st.heap.get? b = some o → o.data = .dict es ep → T b = none := by
      intro b o es ep hb hd
      rcases only b with h | ⟨rfl, _⟩
      · exact h
      · rw [obj] at hb
        cases hb
        have z : Data.seq vs.toArray _ = Data.dict es ep := hd
        cases z
    have hidNs : ∀ {b : Addr} {m : Str → Option Value}, st.heap.Ns b m → (hidT st.heap T).Ns b m := by
      rintro b m ⟨o, es, ep, hb, hd, rest⟩
      exact ⟨o, es, ep, hidT_get hb (list_no_dict hb hd), hd, rest⟩
    have hidK : K.In (hidT st.heap T) := by
      intro b o hb
      refine hidT_get (inK b o hb) ?_
      rcases only b with h | ⟨rfl, u, h⟩
      · exact h
      · have := apart (by rw [h]; exact fun z => by cases z)
        rw [this] at hb; cases hb
    obtain ⟨mc, lim1, lim2⟩ := noL
    have facts : Mod K mg (hidT st.heap T) := ⟨hidK, hidNs nsG, ⟨mb, hidNs nsB, isB⟩, ⟨mc, hidNs lim1, lim2⟩⟩
    have env0 : L2.Env0 P w K mg (hidT st.heap T) callerA [] st T :=
      { frames := rfl, mod := facts, bs := fun b o h => of_hidT h, bsz := Nat.le_of_eq (hidT_size _ _), funs := trivial, frf := fun b hb => (by cases hb), hok := ok, bare := .of_eq noG }
    have store : RS K T [a] [.rol (ns.map D.int)] := by
      refine ⟨rfl, fun m1 m2 b c c' h1 h2 _ _ q1 q2 => ?_, fun m c b h1 h2 => ?_⟩
      · cases m1 with
        | succ m1 => simp at h1
        | zero =>
          have : c = .rol (ns.map D.int) := by simpa using h1.symm
          subst this; cases q1
      · cases m with
        | succ m => simp at h1
        | zero =>
          have e1 : c = .rol (ns.map D.int) := by simpa using h1.symm
          have e2 : b = a := by simpa using h2.symm
          subst e1 e2
          exact cell
    have given : SpF K mg 1 F [.ref a] T (fun v _ => v = .bl true) (fun _ _ _ => False) := by
      refine ⟨[a], [.ptr 0], [.rol (ns.map D.int)], RDs.cons (by unfold RD; exact ⟨a, rfl, rfl⟩) RDs.nil, rfl, store, ?_⟩
      rw [runs]
      intro φ' H' v _ _ hv
      unfold RD at hv
      exact hv
    refine codeAny_mono ((G _ hidK (hidNs nsG)).run callerA [] st T ⟨[.ref a], []⟩ [.ref a] [.ref a] _ _ room rfl env0 (bnd st (.ref a)) (.cons rfl .nil) given) fun r s' out => ?_
    cases r with
    | error e =>
      obtain ⟨_, _, _, _, _, _, _, _, _, _, _, _, no⟩ := out
      exact no.elim
    | ok fl =>
      cases fl with
      | next => exact False.elim out
      | brk => exact False.elim out
      | cont => exact False.elim out
      | ret u =>
        obtain ⟨v, H', os, bare, un, hok', rel, eq⟩ := out
        have eq : v = .bl true := eq
        subst eq
        have rel : u = Value.bool true := rel
        subst rel
        refine ⟨rfl, OldK.of_keep fun b o hb => ?_, os, bare⟩
        rcases only b with h | ⟨_, u, h⟩
        · exact un.keep b o hb h (fun z => by cases z) (fun z => by cases z)
        · have there := un.frzs b u _ h
          have same1 : st.heap.get? b = some u := (ok b _ h).1
          have same2 : s'.heap.get? b = some u := (hok' b _ there).1
          rw [hb] at same1
          rw [same2, ← same1]
  cases look : K.lookup a with
  | none =>
    refine core (fun b => if b = a then some (.frz { cls := .type "list", data := .seq vs.toArray } (.lst (ns.map V.int))) else none) (fun b => ?_) ⟨ns.map V.int, .inl ⟨_, if_pos rfl⟩, rds_ints ns⟩ ?_ fun _ => look
    · by_cases hb : b = a
      · exact .inr ⟨hb, _, if_pos hb⟩
      · exact .inl (if_neg hb)
    · intro b o hb0
      have hb : (if b = a then some (HO.frz { cls := .type "list", data := .seq vs.toArray } (.lst (ns.map V.int))) else none) = some o := hb0
      clear hb0
      by_cases e : b = a
      · rw [if_pos e] at hb
        subst e
        cases hb
        exact ⟨obj, by rw [List.length_map]; exact Nat.le_trans few line, vs, _, valsV, obj⟩
      · rw [if_neg e] at hb
        cases hb
  | some o =>
    have there := inK a o look
    rw [obj] at there
    cases there
    refine core (fun _ => none) (fun _ => .inl rfl) ⟨ns.map V.int, .inr ⟨_, vs.toArray, _, look, rfl, rfl, rfl, ?_, by rw [List.toList_toArray]; exact valsV⟩, rds_ints ns⟩ (fun b o h => by cases h) fun h => absurd rfl h
    rw [List.size_toArray, sameLen]
    exact Nat.le_trans few line
/-- what k_head leaves, from the law's def -/
theorem walkG {l : PySem.W.OpenLaw} {n k : Nat} {q : Program} {loose : List Str} {XP : (Str → Option Value) → Heap → Prop} {YP : World → Heap → Prop} {d : DefRec} {K : Params → PySem.W.Frag} {x : Str} {F : Fn}
    (hn : l.most = some n) (line : n ≤ sizeLine) (nodef : d.params.defaults = []) (room : Room k callerA) (hY : ∀ (w : World) (h : Heap), YP w h → (K w.params).In h)
    (G : ∀ (w : World) (mg : Str → Option Value) (fa : Addr) (h : Heap), (K w.params).In h → h.Ns mainGlobals mg → mg d.name = some (.ref fa) →
      ∃ fd : FuncData, (∀ (s : Shared) (u : Value), BindsTo s fd ⟨[u], []⟩ [(x, u)]) ∧ ∀ base : Heap, (K w.params).In base → base.Ns mainGlobals mg → FnG l.prog w (K w.params) mg base k fa fd [x] F)
    (true_ : LawTrue n F) : PySem.W.WalkO q loose XP YP l.row.toRowW d [] (fun f vs => PySem.call f vs) := by
  refine Att.attach_callB hn nodef fun w s₀ s₁ mg mb fa o pm cd doc a vs ns GR Y _ _ _ isLaw isList areInts few bits noGen => ?_
  have kin := hY w _ Y
  obtain ⟨fd, bnd, promise⟩ := G w mg fa _ kin GR.T.g isLaw
  exact law_callG kin GR.T.g GR.T.b GR.T.builtins GR.T.nolimit noGen isList areInts few line bits room promise bnd true_
end RL

namespace RL
open PySem PySem.Spec PyProof.Rows L2

/-! ### repr -/
def Shows (prog : Program) (w : World) (h : Heap) (u : Value) (p : PyData) : Prop := (∃ as, Reads h u p as) ∧ ∃ bs, ReadAtMost h p.depth bs ∧ ReprK prog w bs h p.depth u p.shown
def ShowsAll (prog : Program) (w : World) (h : Heap) (us : List Value) (ps : List PyData) : Prop :=
  (∃ as, ReadsAll h us ps as) ∧ ∃ bs, ReadAtMost h (PyData.depthAll ps) bs ∧ ReprAllK prog w bs h (PyData.depthAll ps) us (PyData.shownAll ps)
section
variable {prog : Program} {w : World} {h : Heap}
theorem shows_nil : ShowsAll prog w h [] [] := ⟨⟨[], .nil⟩, [], (fun _ hm => nomatch hm), by simp only [PyData.shownAll]; exact .nil⟩
theorem shows_cons {u : Value} {p : PyData} {us : List Value} {ps : List PyData} (a : Shows prog w h u p) (b : ShowsAll prog w h us ps) : ShowsAll prog w h (u :: us) (p :: ps) := by
  obtain ⟨⟨as, ra⟩, x1, y1, z1⟩ := a
  obtain ⟨⟨bs, rb⟩, x2, y2, z2⟩ := b
  refine ⟨⟨as ++ bs, .cons ra rb⟩, x1 ++ x2, ?_, ?_⟩
  · simp only [PyData.depthAll]
    exact (y1.mono (Nat.le_max_left _ _)).append (y2.mono (Nat.le_max_right _ _))
  · simp only [PyData.depthAll, PyData.shownAll]
    refine .cons ((z1.more fun b m => List.mem_append_left _ m).level_le (Nat.le_max_left _ _)) ?_
    exact z2.more_le (fun b m => List.mem_append_right _ m) (Nat.le_max_right _ _)
theorem shows_flat {u : Value} {p : PyData} (r : ∃ as, Reads h u p as) (q : ReprIs prog w u p.shown) : Shows prog w h u p := ⟨r, [], (fun _ hm => nomatch hm), .of_is q _ _ _⟩
theorem shows_list {a : Addr} {o : Obj} {its : Array Value} {n : Nat} {ps : List PyData} (h1 : h.get? a = some o) (h2 : o.cls = .type "list") (h3 : o.data = .seq its n) (x : ShowsAll prog w h its.toList ps) : Shows prog w h (.ref a) (.list ps) := by
  obtain ⟨⟨as, ra⟩, bs, hb, hk⟩ := x
  have rd : Reads h (.ref a) (.list ps) _ := .list h1 h2 h3 ra
  have off : a ∉ bs := not_mem_of_deeper rd (by simp only [PyData.depth]; omega) hb
  refine ⟨⟨_, rd⟩, a :: bs, ReadAtMost.cons rd (by simp only [PyData.depth]; omega) hb, ?_⟩
  simp only [PyData.depth, PyData.shown]
  obtain ⟨l⟩ := its
  cases l with
  | nil =>
    have ra : ReadsAll h [] ps as := ra
    cases ra
    simp only [PyData.shownAll, listText_nil]
    exact ReprK.listEmpty h1 h2 h3
  | cons y l => exact ReprK.list h1 h2 h3 off (by rw [hk.length_eq]; simp) fun i z e => hk.item i z (by simpa using e)
theorem shows_tuple {a : Addr} {o : Obj} {its : Array Value} {n : Nat} {ps : List PyData} (h1 : h.get? a = some o) (h2 : o.cls = .type "tuple") (h3 : o.data = .seq its n) (x : ShowsAll prog w h its.toList ps) : Shows prog w h (.ref a) (.tuple ps) := by
  obtain ⟨⟨as, ra⟩, bs, hb, hk⟩ := x
  have rd : Reads h (.ref a) (.tuple ps) _ := .tuple h1 h2 h3 ra
  have off : a ∉ bs := not_mem_of_deeper rd (by simp only [PyData.depth]; omega) hb
  refine ⟨⟨_, rd⟩, a :: bs, ReadAtMost.cons rd (by simp only [PyData.depth]; omega) hb, ?_⟩
  simp only [PyData.depth, PyData.shown]
  exact ReprK.tuple h1 h2 h3 off hk
/-- what a dict's own call wants -/
structure DictShown (prog : Program) (w : World) (h : Heap) (a : Addr) (o : Obj) (es : Array DictEntry) (n : Nat) (kvs : List (PyData × PyData)) : Prop where
  at_ : h.get? a = some o
  cls : o.cls = .type "dict"
  data : o.data = .dict es n
  sys : (a == sysModules) = false
  keys : ShowsAll prog w h (es.toList.map (·.key)) (kvs.map (·.1))
  vals : ShowsAll prog w h (es.toList.map (·.val)) (kvs.map (·.2))
theorem DictShown.entries {a : Addr} {o : Obj} {es : Array DictEntry} {n : Nat} {kvs : List (PyData × PyData)} (x : DictShown prog w h a o es n kvs) :
    ∃ bs, ReadAtMost h (PyData.depthKv kvs) bs ∧ a ∉ bs ∧ (∃ as, Reads h (.ref a) (.dict kvs) as) ∧ ReprEntriesK prog w bs h (PyData.depthKv kvs) es.toList (PyData.shownKv kvs) := by
  obtain ⟨⟨as, ra⟩, b1, r1, k1⟩ := x.keys
  obtain ⟨⟨cs, rc⟩, b2, r2, k2⟩ := x.vals
  have rd : Reads h (.ref a) (.dict kvs) _ := .dict x.at_ x.cls x.data ra rc
  have few : ReadAtMost h (PyData.depthKv kvs) (b1 ++ b2) := (r1.mono (PyData.depthAll_keys_le kvs)).append (r2.mono (PyData.depthAll_vals_le kvs))
  refine ⟨b1 ++ b2, few, not_mem_of_deeper rd (by simp only [PyData.depth]; omega) few, ⟨_, rd⟩, ?_⟩
  rw [PyData.shownKv_eq]
  exact ReprEntriesK.of_two es.toList _ _ (k1.more_le (fun b m => List.mem_append_left _ m) (PyData.depthAll_keys_le kvs)) (k2.more_le (fun b m => List.mem_append_right _ m) (PyData.depthAll_vals_le kvs))
theorem shows_dict {a : Addr} {o : Obj} {es : Array DictEntry} {n : Nat} {kvs : List (PyData × PyData)} (x : DictShown prog w h a o es n kvs) : Shows prog w h (.ref a) (.dict kvs) := by
  obtain ⟨bs, few, off, ⟨as, rd⟩, ents⟩ := x.entries
  refine ⟨⟨_, rd⟩, a :: bs, ReadAtMost.cons rd (by simp only [PyData.depth]; omega) few, ?_⟩
  simp only [PyData.depth, PyData.shown]
  exact ReprK.dict x.at_ x.cls x.data x.sys off ents
end
section
variable {X : Cx} {pins : List (Addr × Obj)} {σ : L2.St} {H : Hp} {s : Shared} {φ : List Addr} {S : Store}
theorem shown_all_le : ∀ {ps : List PyData}, (∀ t ∈ PyData.shownAll ps, t.length ≤ sizeLine) → ∀ p ∈ ps, p.shown.length ≤ sizeLine
  | [], _, _, hp => nomatch hp
  | q :: ps, hz, p, hp => by
    rcases List.mem_cons.mp hp with e | hp
    · subst e; exact hz _ (by simp only [PyData.shownAll]; exact List.mem_cons_self ..)
    · exact shown_all_le (fun t ht => hz t (by simp only [PyData.shownAll]; exact List.mem_cons_of_mem _ ht)) p hp
theorem kids (k : Nat) (ih : ∀ (d : D) (v : V) (u : Value) (p : PyData), RD X.K H φ d v → RelV v u → deep S k d = some p → p.showable = true → p.shown.length ≤ sizeLine → Shows X.prog X.w s.heap u p) :
    ∀ (ds : List D) (vs : List V) (us : List Value) (ps : List PyData), RDs X.K H φ ds vs → Vals vs us → mapO (deep S k) ds = some ps → PyData.showableAll ps = true → (∀ p ∈ ps, p.shown.length ≤ sizeLine) → ShowsAll X.prog X.w s.heap us ps
  | [], _, _, _, r, q, e, _, _ => by
    unfold RDs at r; unfold mapO at e
    subst r; cases e; cases q
    exact shows_nil
  | d :: ds, _, _, _, r, q, e, sh, hz => by
    unfold RDs at r
    obtain ⟨v, vs', rfl, r1, r2⟩ := r
    obtain ⟨y, ys, h1, h2, rfl⟩ := mapO_cons e
    simp only [PyData.showableAll, Bool.and_eq_true] at sh
    cases q with
    | cons q1 q2 => exact shows_cons (ih d v _ y r1 q1 h1 sh.1 (hz y List.mem_cons_self)) (kids k ih ds vs' _ ys r2 q2 h2 sh.2 fun p hp => hz p (List.mem_cons_of_mem _ hp))
theorem key_shows {k : L2.Key} {u : Value} (hk : keyIs k u = true) (sh : (keyP k).showable = true) (hz : (keyP k).shown.length ≤ sizeLine) : Shows X.prog X.w s.heap u (keyP k) := by
  rcases keyIs_shape hk with ⟨i, t, rfl, rfl⟩ | ⟨x, t, rfl, rfl⟩
  · exact shows_flat ⟨_, .int i t⟩ (by simp only [keyP, PyData.shown]; exact ReprIs.int t (by simpa [keyP, PyData.showable] using sh))
  · exact shows_flat ⟨_, .str x t⟩ (by simp only [keyP, PyData.shown]; exact ReprIs.str x t (by simpa only [keyP, PyData.shown] using hz))
theorem kidsKv (k : Nat) (ih : ∀ (d : D) (v : V) (u : Value) (p : PyData), RD X.K H φ d v → RelV v u → deep S k d = some p → p.showable = true → p.shown.length ≤ sizeLine → Shows X.prog X.w s.heap u p) :
    ∀ (ds : List (L2.Key × D)) (ks : List (L2.Key × V)) (vs : List (L2.Key × Value)) (es : List DictEntry) (ps : List (PyData × PyData)), RKv X.K H φ ds ks → KV ks vs → Pairs (mixKind X.prog X.w) es vs →
      mapO (fun kv : L2.Key × D => (deep S k kv.2).map fun v => (keyP kv.1, v)) ds = some ps → PyData.showableKv ps = true → (∀ p ∈ ps, p.1.shown.length ≤ sizeLine ∧ p.2.shown.length ≤ sizeLine) →
      ShowsAll X.prog X.w s.heap (es.map (·.key)) (ps.map (·.1)) ∧ ShowsAll X.prog X.w s.heap (es.map (·.val)) (ps.map (·.2))
  | [], _, _, _, _, r, q, pr, e, _, _ => by
    unfold RKv at r; unfold mapO at e
    subst r; cases e
    cases q
    cases pr
    exact ⟨shows_nil, shows_nil⟩
  | (key, d) :: ds, _, _, _, _, r, q, pr, e, sh, hz => by
    unfold RKv at r
    obtain ⟨v, vs', rfl, r1, r2⟩ := r
    obtain ⟨y, ys, h1, h2, rfl⟩ := mapO_cons e
    cases q with
    | cons q1 q2 =>
      cases pr with
      | cons p1 p2 p3 =>
        obtain ⟨q1a, q1b⟩ := q1
        cases hd : deep S k d with
        | none => rw [hd] at h1; cases h1
        | some p =>
          rw [hd] at h1
          cases h1
          simp only [PyData.showableKv, Bool.and_eq_true] at sh
          obtain ⟨z1, z2⟩ := hz _ List.mem_cons_self
          have rest := kidsKv k ih ds vs' _ _ ys r2 q2 p3 h2 sh.2 fun p hp => hz p (List.mem_cons_of_mem _ hp)
          simp only at q1a q1b
          refine ⟨shows_cons (key_shows (by rw [q1a]; exact p1) sh.1.1 z1) rest.1, shows_cons ?_ rest.2⟩
          have here := ih d v _ p r1 q1b hd sh.1.2 z2
          rw [← p2] at here
          exact here
theorem list_part {ps : List PyData} (hz : (PyData.list ps).shown.length ≤ sizeLine) : ∀ p ∈ ps, p.shown.length ≤ sizeLine :=
  shown_all_le fun t ht => Nat.le_trans (listText_mem_le ht) (by simpa only [PyData.shown] using hz)
theorem tuple_part {ps : List PyData} (hz : (PyData.tuple ps).shown.length ≤ sizeLine) : ∀ p ∈ ps, p.shown.length ≤ sizeLine :=
  shown_all_le fun t ht => Nat.le_trans (tupleText_mem_le ht) (by simpa only [PyData.shown] using hz)
theorem dict_part {ps : List (PyData × PyData)} (hz : (PyData.dict ps).shown.length ≤ sizeLine) : ∀ p ∈ ps, p.1.shown.length ≤ sizeLine ∧ p.2.shown.length ≤ sizeLine := by
  have hz : (dictText (PyData.shownKv ps)).length ≤ sizeLine := by simpa only [PyData.shown] using hz
  have a1 : ∀ t ∈ PyData.shownAll (ps.map (·.1)), t.length ≤ sizeLine := fun t ht => let ⟨q, hq, hl⟩ := PyData.shownKv_key_le ps t ht; Nat.le_trans hl (Nat.le_trans (dictText_mem_le hq) hz)
  have a2 : ∀ t ∈ PyData.shownAll (ps.map (·.2)), t.length ≤ sizeLine := fun t ht => let ⟨q, hq, hl⟩ := PyData.shownKv_val_le ps t ht; Nat.le_trans hl (Nat.le_trans (dictText_mem_le hq) hz)
  exact fun p hp => ⟨shown_all_le a1 p.1 (List.mem_map_of_mem hp), shown_all_le a2 p.2 (List.mem_map_of_mem hp)⟩
/-- what stands at a value that is an object -/
inductive Made (X : Cx) (h : Heap) : Value → PyData → Prop where
  | list {a : Addr} {o : Obj} {its : Array Value} {n : Nat} {ps : List PyData} : h.get? a = some o → o.cls = .type "list" → o.data = .seq its n → ShowsAll X.prog X.w h its.toList ps → Made X h (.ref a) (.list ps)
  | tuple {a : Addr} {o : Obj} {its : Array Value} {n : Nat} {ps : List PyData} : h.get? a = some o → o.cls = .type "tuple" → o.data = .seq its n → ShowsAll X.prog X.w h its.toList ps → Made X h (.ref a) (.tuple ps)
  | dict {a : Addr} {o : Obj} {es : Array DictEntry} {n : Nat} {kvs : List (PyData × PyData)} : DictShown X.prog X.w h a o es n kvs → Made X h (.ref a) (.dict kvs)
  | none : Made X h .none .none
  | bool {b : Bool} : Made X h (.bool b) (.bool b)
  | int {i : Int} {t : Tok} : Made X h (.int i t) (.int i)
  | str {x : Str} {t : Tok} : Made X h (.str x t) (.str x)
theorem Made.shows {h : Heap} {u : Value} {p : PyData} (m : Made X h u p) (sh : p.showable = true) (hz : p.shown.length ≤ sizeLine) : Shows X.prog X.w h u p := by
  cases m with
  | list h1 h2 h3 x => exact shows_list h1 h2 h3 x
  | tuple h1 h2 h3 x => exact shows_tuple h1 h2 h3 x
  | dict x => exact shows_dict x
  | none => exact shows_flat ⟨_, .none⟩ (by simp only [PyData.shown]; exact ReprIs.none)
  | bool => exact shows_flat ⟨_, .bool _⟩ (by simp only [PyData.shown]; exact ReprIs.bool _)
  | int => exact shows_flat ⟨_, .int _ _⟩ (by simp only [PyData.shown]; exact ReprIs.int _ (by simpa [PyData.showable] using sh))
  | str => exact shows_flat ⟨_, .str _ _⟩ (by simp only [PyData.shown]; exact ReprIs.str _ _ (by simpa only [PyData.shown] using hz))
theorem made_deep (I : Inv X pins σ H s) (rs : RS X.K H φ S) : ∀ (k : Nat) (d : D) (v : V) (u : Value) (p : PyData), RD X.K H φ d v → RelV v u → deep S k d = some p → p.showable = true → p.shown.length ≤ sizeLine → Made X s.heap u p
  | 0, _, _, _, _, _, _, e, _, _ => by unfold deep at e; cases e
  | k + 1, .non, v, u, p, r, q, e, _, _ => by unfold deep at e; unfold RD at r; cases e; subst r; cases q; exact .none
  | k + 1, .bl b, v, u, p, r, q, e, _, _ => by unfold deep at e; unfold RD at r; cases e; subst r; cases q; exact .bool
  | k + 1, .int b, v, u, p, r, q, e, _, _ => by unfold deep at e; unfold RD at r; cases e; subst r; obtain ⟨t, rfl⟩ := q; exact .int
  | k + 1, .str b, v, u, p, r, q, e, _, _ => by unfold deep at e; unfold RD at r; cases e; subst r; obtain ⟨t, rfl⟩ := q; exact .str
  | k + 1, .tup ds, v, u, p, r, q, e, sh, hz => by
    unfold deep at e; unfold RD at r
    obtain ⟨a, xs, rfl, h1, h2⟩ := r
    cases q
    cases hm : mapO (deep S k) ds with
    | none => rw [hm] at e; cases e
    | some ps =>
      rw [hm] at e; cases e
      obtain ⟨its, rv, ⟨o, ho, hc, n, hd⟩, _⟩ := I.tuple h1
      exact .tuple ho hc hd (kids k (fun d v u p r q e sh hz => (made_deep I rs k d v u p r q e sh hz).shows sh hz) ds xs _ ps h2 (by simpa using rv) hm (by simpa [PyData.showable] using sh) (tuple_part hz))
  | k + 1, .ptr n, v, u, p, r, q, e, sh, hz => by
    unfold deep at e; unfold RD at r
    obtain ⟨a, ha, rfl⟩ := r
    cases q
    split at e
    · rename_i ds hS
      cases hm : mapO (deep S k) ds with
      | none => rw [hm] at e; cases e
      | some ps =>
        rw [hm] at e; cases e
        obtain ⟨a', xs, h0, h1, h2⟩ := rs.seqL (.inl hS)
        rw [ha] at h0; cases h0
        obtain ⟨its, rv, ⟨o, n, ho, hc, _, hd⟩, _⟩ := I.list h1
        exact .list ho hc hd (kids k (fun d v u p r q e sh hz => (made_deep I rs k d v u p r q e sh hz).shows sh hz) ds xs _ ps h2 (by simpa using rv) hm (by simpa [PyData.showable] using sh) (list_part hz))
    · rename_i ds hS
      cases hm : mapO (deep S k) ds with
      | none => rw [hm] at e; cases e
      | some ps =>
        rw [hm] at e; cases e
        obtain ⟨a', xs, h0, h1, h2⟩ := rs.seqL (.inr hS)
        rw [ha] at h0; cases h0
        obtain ⟨its, rv, ⟨o, n, ho, hc, _, hd⟩, _⟩ := I.list h1
        exact .list ho hc hd (kids k (fun d v u p r q e sh hz => (made_deep I rs k d v u p r q e sh hz).shows sh hz) ds xs _ ps h2 (by simpa using rv) hm (by simpa [PyData.showable] using sh) (list_part hz))
    · rename_i ds hS
      cases hm : mapO (fun kv : L2.Key × D => (deep S k kv.2).map fun v => (keyP kv.1, v)) ds with
      | none => rw [hm] at e; cases e
      | some ps =>
        rw [hm] at e; cases e
        obtain ⟨a', h0, xs, h1, h2⟩ := rs.at hS
        rw [ha] at h0; cases h0
        obtain ⟨_, hsys, vs, rv, o, es, ep, ho, hx, hd, _, hp, _⟩ := I.hok a _ h1
        obtain ⟨k1, k2⟩ := kidsKv k (fun d v u p r q e sh hz => (made_deep I rs k d v u p r q e sh hz).shows sh hz) ds xs vs es.toList ps h2 rv hp hm (by simpa [PyData.showable] using sh) (dict_part hz)
        exact .dict ⟨ho, hx.1, hd, hsys, k1, k2⟩
    · cases e
    · cases e
    · cases e
theorem call_repr_made {A : Around} {E : Value → Shared → Prop} {u : Value} {p : PyData} {Q : Value → Shared → Prop} (m : Made X s.heap u p) (sh : p.showable = true) (hz : p.shown.length ≤ sizeLine) (hg : A.guards = some []) (hu : A.units + (p.depth + 1) < cLine)
    (q : ∀ h' u tk, (∀ b o, s.heap.get? b = some o → h'.get? b = some o) → Q (.str p.shown u) { s with heap := h', toks := tk }) : wpAny (model X.prog X.w) A (call (.builtin "repr") [u]) Q E s := by
  cases m with
  | none => simp only [PyData.shown] at q; exact PySem.P.repr_of_none (q s.heap _ _ fun _ _ e => e)
  | bool => simp only [PyData.shown] at q; exact PySem.P.repr_of_bool (q s.heap _ _ fun _ _ e => e)
  | int => simp only [PyData.shown] at q; exact PySem.P.repr_of_int (by simpa [PyData.showable] using sh) (q s.heap _ _ fun _ _ e => e)
  | str => simp only [PyData.shown] at q hz; exact PySem.P.repr_of_str (q s.heap _ _ fun _ _ e => e) hz
  | @list a o its n ps h1 h2 h3 x =>
    obtain ⟨⟨as, ra⟩, bs, hb, hk⟩ := x
    have off : a ∉ bs := not_mem_of_deeper (.list h1 h2 h3 ra) (by simp only [PyData.depth]; omega) hb
    simp only [PyData.depth] at hu
    simp only [PyData.shown] at q hz
    refine call_repr_slot (by omega) ⟨o, h1, h2⟩ F.slot_list_repr.toG ?_
    obtain ⟨l⟩ := its
    cases l with
    | nil =>
      have ra : ReadsAll s.heap [] ps as := ra
      cases ra
      simp only [PyData.shownAll, listText_nil] at q
      exact call_list_repr_empty ⟨o, h1, h2⟩ h1 h3 ⟨_, _, rfl, q s.heap _ _ fun _ _ e => e⟩
    | cons y l =>
      exact call_list_reprK h1 h2 h3 off (by rw [hk.length_eq]; simp) (fun i z e => hk.item i z (by simpa using e)) (A := A.in1) hg (fun b _ => Clear.nil b) (by show A.units + 1 + _ < cLine; omega) (fun _ _ e => e) (fun h' u tk hk' => ⟨_, _, rfl, q h' u tk hk'⟩) hz
  | @tuple a o its n ps h1 h2 h3 x =>
    obtain ⟨⟨as, ra⟩, bs, hb, hk⟩ := x
    have off : a ∉ bs := not_mem_of_deeper (.tuple h1 h2 h3 ra) (by simp only [PyData.depth]; omega) hb
    simp only [PyData.depth] at hu
    simp only [PyData.shown] at q hz
    exact call_repr_slot (by omega) ⟨o, h1, h2⟩ F.slot_tuple_repr (call_tuple_reprK h1 h2 h3 off hk (A := A.in1) hg (fun b _ => Clear.nil b) (by show A.units + 1 + _ < cLine; omega) (fun _ _ e => e) (fun h' u tk hk' => ⟨_, _, rfl, q h' u tk hk'⟩) hz)
  | @dict a o es n kvs x =>
    obtain ⟨bs, few, off, _, ents⟩ := x.entries
    simp only [PyData.depth] at hu
    simp only [PyData.shown] at q hz
    exact call_repr_slot (by omega) ⟨o, x.at_, x.cls⟩ F.slot_dict_repr (call_dict_reprK x.at_ x.cls x.data x.sys off ents (A := A.in1) hg (fun b _ => Clear.nil b) (by show A.units + 1 + _ < cLine; omega) (fun _ _ e => e) (fun h' u tk hk' => ⟨_, _, rfl, q h' u tk hk'⟩) hz)
end
/-- repr(x) -/
def fRepr : Fn
  | [d], S => match deep S deepLine d with
    | some p => if p.showable = true ∧ p.shown.length ≤ sizeLine ∧ p.depth ≤ 60 then .ok (.str p.shown) S else .bad
    | none => .bad
  | _, _ => .bad
def rRepr (K : PySem.W.Frag) : List V → Hp → VK → Prop := fun xs H Q => ∃ d v p φ S, xs = [v] ∧ RS K H φ S ∧ RD K H φ d v ∧ deep S deepLine d = some p ∧ p.showable = true ∧ p.shown.length ≤ sizeLine ∧ p.depth ≤ 60 ∧ Q (.str p.shown) H
section
variable {X : Cx} {W : WX} {k : Nat}
theorem call_repr (c : Ctx X W k) : CallR X (.builtin "repr") (rRepr X.K) := by
  intro pins s σ H xs us Q I r h
  obtain ⟨d, v, p, φ, S, rfl, rs, rd, e, sh, hz, dp, q⟩ := h
  obtain ⟨u, rfl, ru⟩ := vals1 r
  refine call_repr_made (made_deep I rs _ d v u p rd ru e sh hz) sh hz c.gu (by have := c.hr.units; omega) fun h' t tk keep => ?_
  exact ⟨.str p.shown, H, I.kept (t' := tk) keep, ⟨t, rfl⟩, q⟩
theorem cd_repr : CallD X (rRepr X.K) fRepr := by
  intro W σ φ H S xs vs Q rs r h
  unfold fRepr at h
  split at h
  · obtain ⟨v, rfl, rx⟩ := r.one
    split at h
    · rename_i p hp
      split at h
      · rename_i hz
        exact ⟨_, v, p, φ, S, rfl, rs, rx, hp, hz.1, hz.2.1, hz.2.2, h.ok rs _ rd_str⟩
      · exact h.elim
    · exact h.elim
  · exact h.elim
end
end RL

namespace RL
open PySem PySem.Spec PyProof.Rows L2 PySem.W PySem.SeqAt

/-! ### sorted -/
section
variable {prog : Program} {w : World} {A : Around} {E : Value → Shared → Prop} {s : Shared}
theorem oneLt_data {f : Bool} {da db : PyData} {a b : Value} {as bs : List Addr} {Q : Bool → Shared → Prop} (ra : Reads s.heap a da as) (rb : Reads s.heap b db bs) (h : alike da db = true) (hn : da ≠ .none)
    (hu : A.units + min da.depth db.depth < cLine) (hq : Q (dataLt da db) s) : wpAny (model prog w) A (oneLt' f a b) Q E s := by
  cases da with
  | tuple xs =>
    cases f with
    | false => exact oneLt_alike (fun z => by cases z) ra rb h hn hu hq
    | true =>
      cases db with
      | tuple ys =>
        have all : alikeAll xs ys = true := by simpa [alike] using h
        cases ra with
        | @tuple l o vs n _ as₁ g1 g2 g3 g4 =>
          cases rb with
          | @tuple l' o' vs' n' _ bs₁ k1 k2 k3 k4 =>
            have m1 : vs.size = xs.length := by simpa using SeqAt.ReadsAll.length _ _ _ g4
            have m2 : vs'.size = ys.length := by simpa using SeqAt.ReadsAll.length _ _ _ k4
            rw [dataLt_tuple, ← firstLt_toks xs ys all, ← m1, ← m2] at hq
            obtain ⟨cls, dd, data, sl⟩ := o
            obtain ⟨cls2, dd2, data2, sl2⟩ := o'
            simp only at g2 g3 k2 k3
            subst g2 g3 k2 k3
            rw [oneLt'_eq]
            simp only [if_true]
            have room2 : A.units + 1 + PyData.depthAll xs < cLine ∨ A.units + 1 + PyData.depthAll ys < cLine := by
              simp only [PyData.depth] at hu
              omega
            refine wpAny_bind (wpAny_cRoomFor (by simp only [PyData.depth] at hu; omega) ?_)
            refine wpAny_bind (wpAny_callSpecialIfBound?_slot (T := "tuple") ⟨_, g1, rfl⟩ F.slot_tuple_lt (call_meets F.slot_tuple_lt ⟨_, g1, rfl⟩ F.entry_tuple_lt (F.args_tuple_lt_2 _ _)
              (tuple_ltAt l l' vs vs' n n' dd dd2 sl sl2 (pairEq xs ys) (fun j => dataLt (xs.getD j .none) (ys.getD j .none))) ⟨g1, k1, fun j j1 j2 => ?_, fun j j1 j2 hj => ?_, ?_⟩))
            · have := eqAt_alikeAll xs ys A.in1 s vs.toList vs'.toList _ _ g4 k4 all (by show A.units + 1 + _ < cLine; simp only [PyData.depth] at hu; omega) j (by simpa using j1) (by simpa using j2)
              simpa using this
            · have := rcLt_alikeAll xs ys A.in1 s vs.toList vs'.toList _ _ g4 k4 all (by show A.units + 1 + _ < cLine; simp only [PyData.depth] at hu; omega) j (by simpa using j1) (by simpa using j2) hj
              simpa using this
            · exact wpAny_truthy_bool hq
      | _ => exact absurd h (by simp [alike])
  | _ => exact oneLt_alike (fun _ _ z => by cases z) ra rb h hn hu hq

/-- tuples, empty ones among them: the first items -/
theorem firsts_any : ∀ {vs : List Value} {ds : List PyData}, EachIs (fun v d => ∃ as, Reads s.heap v d as) vs ds → (∀ d ∈ ds, ∃ xs, d = PyData.tuple xs) →
    ∃ fs : List (Option Value), fs.length = vs.length ∧ (fs.map Option.isSome = ds.map fun d => match d with | .tuple (_ :: _) => true | _ => false) ∧
      ∀ (M : Model) (A : Around) (E : Value → Shared → Prop) (Q : List (Option Value) → Shared → Prop), Q fs s → wpAny M A (vs.mapM firstOfTuple') Q E s
  | _, _, .nil, _ => ⟨[], rfl, rfl, fun M A E Q h => by rw [List.mapM_nil]; exact wpAny_pure h⟩
  | _, _, .cons (a := v) (b := d) r t, hd => by
    obtain ⟨fs, l1, l2, l3⟩ := firsts_any t fun d hm => hd d (List.mem_cons_of_mem _ hm)
    obtain ⟨xs, rfl⟩ := hd _ List.mem_cons_self
    obtain ⟨as, r⟩ := r
    cases r with
    | @tuple a o vs' n _ _ g1 g2 g3 g4 =>
      refine ⟨vs'[0]? :: fs, by rw [List.length_cons, List.length_cons, l1], ?_, fun M A E Q h => ?_⟩
      · rw [List.map_cons, List.map_cons, l2]
        congr 1
        obtain ⟨l⟩ := vs'
        cases g4' : l with
        | nil =>
          subst g4'
          have g4 : ReadsAll s.heap [] xs _ := g4
          cases g4
          rfl
        | cons y l' =>
          subst g4'
          have g4 : ReadsAll s.heap (y :: l') xs _ := g4
          cases g4
          rfl
      · rw [List.mapM_cons]
        refine wpAny_bind ?_
        rw [kas_first_eq]
        refine wpAny_bind (Looks.here (show Looks M s.heap (typeOf (.ref a)) o.cls from (Looks.ld g1).andThen .now) ?_)
        rw [g2, if_neg (by first | decide | simp)]
        refine wpAny_bind (listItems_at g1 g3 (wpAny_pure ?_))
        exact wpAny_bind (l3 M A E (fun bs s' => wpAny M A (pure (vs'[0]? :: bs)) Q E s') (wpAny_pure h))
/-- values that read as alike data can be sorted, whatever their lengths -/
theorem sortsAt_any {vs : List Value} {ds : List PyData} (e : EachIs (fun v d => ∃ as, Reads s.heap v d as) vs ds) (hal : AllAlike ds) (hk : ∀ d ∈ ds, d ≠ .none) (hu : ∀ d, d ∈ ds → A.units + d.depth < cLine) : SortsAt prog w A s (dataKind s.heap ds) vs := by
  by_cases h1 : ∀ d ∈ ds, ∃ x r, d = PyData.tuple (x :: r)
  · exact SortsAt.data e hal (.inl h1) hu
  by_cases h2 : ∀ d ∈ ds, ∀ xs, d ≠ PyData.tuple xs
  · exact SortsAt.data e hal (.inr fun d hd => ⟨hk d hd, h2 d hd⟩) hu
  have room : ∀ {d d' : PyData}, d ∈ ds → A.units + min d.depth d'.depth < cLine := fun {d d'} hd => Nat.lt_of_le_of_lt (Nat.add_le_add_left (Nat.min_le_left _ _) _) (hu d hd)
  have tups : ∀ d ∈ ds, ∃ xs, d = PyData.tuple xs := by
    have : ∃ d, d ∈ ds ∧ ∃ xs, d = PyData.tuple xs := Classical.byContradiction fun z => h2 fun d hd xs e => z ⟨d, hd, xs, e⟩
    obtain ⟨d0, m0, xs0, rfl⟩ := this
    intro d hd
    have q := hal d hd _ m0
    cases d with
    | tuple xs => exact ⟨xs, rfl⟩
    | _ => exact absurd q (by simp [alike])
  have noAll : ¬ ∀ d ∈ ds, (match d with | .tuple (_ :: _) => true | _ => false) = true := fun z => h1 fun d hd => by
    have q := z d hd
    obtain ⟨xs, rfl⟩ := tups d hd
    cases xs with
    | nil => cases q
    | cons x r => exact ⟨x, r, rfl⟩
  have lts : ∀ (f : Bool) (kd : SortKind), (∀ x y, keyLt' kd x y = oneLt' f x y) → H.LtAt prog w A s (dataKind s.heap ds) kd := by
    intro f kd hf E x y a b Q ha hb hq
    obtain ⟨d, as, hd, ra, rfl⟩ := dataKind_inv ha
    obtain ⟨d', as', hd', rb, rfl⟩ := dataKind_inv hb
    rw [hf]
    exact oneLt_data ra rb (hal d hd d' hd') (hk d hd) (room hd) hq
  obtain ⟨fs, f1, f2, f3⟩ := firsts_any e tups
  have notAll : (fs.toArray.all fun x => x.isSome) = false := by
    rw [Bool.eq_false_iff]
    intro z
    refine noAll fun d hd => ?_
    have z2 : ∀ b ∈ fs.map Option.isSome, b = true := by
      intro b hb
      obtain ⟨x, hx, rfl⟩ := List.mem_map.mp hb
      have := (Array.all_eq_true_iff_forall_mem.mp z) x (by simpa using hx)
      exact this
    rw [f2] at z2
    exact z2 _ (List.mem_map.mpr ⟨d, hd, rfl⟩)
  refine ⟨fun v hv => ?_, ?_⟩
  · obtain ⟨d, hd, as, r⟩ := e.left v hv
    exact ⟨_, dataKind_some hal hd r⟩
  · cases hfirst : (fs.toArray[0]?.bind id).isSome with
    | true =>
      refine ⟨general', lts false general' (fun _ _ => rfl), fun _ E Q hq => ?_⟩
      rw [keyKind'_eq, List.mapM_toArray, map_eq_pure_bind]
      refine wpAny_bind (wpAny_bind (f3 _ _ _ _ (wpAny_pure ?_)))
      rw [if_neg (by rw [notAll]; exact Bool.false_ne_true), if_pos hfirst]
      exact wpAny_pure hq
    | false =>
      refine ⟨oneType', lts true oneType' (fun _ _ => rfl), fun n2 E Q hq => ?_⟩
      rw [keyKind'_eq, List.mapM_toArray, map_eq_pure_bind]
      refine wpAny_bind (wpAny_bind (f3 _ _ _ _ (wpAny_pure ?_)))
      rw [if_neg (by rw [notAll]; exact Bool.false_ne_true), if_neg (by rw [hfirst]; exact Bool.false_ne_true)]
      rw [oneTypeOnly'_eq, List.mapM_toArray, map_eq_pure_bind]
      refine wpAny_bind (wpAny_bind (wpAny_bind (kas_mapM (r := Value.type "tuple") _ (fun v hv Q' hq => ?_) (wpAny_pure ?_))))
      · obtain ⟨d, hd, as, r⟩ := e.left v hv
        obtain ⟨xs, rfl⟩ := tups d hd
        exact (looks_reads r).here hq
      · match vs, n2 with
        | v1 :: v2 :: rest, _ =>
          have ball : ((List.map (fun _ => Value.type "tuple") (v1 :: v2 :: rest)).toArray.all fun x => x == Value.type "tuple") = true := by
            simp only [List.all_toArray, List.all_map, List.all_eq_true]
            intro _ _
            exact beq_self_eq_true _
          have bfirst : (List.map (fun _ => Value.type "tuple") (v1 :: v2 :: rest)).toArray[0]? = some (Value.type "tuple") := by simp
          rw [bfirst]
          simp only [ball, if_true]
          exact wpAny_pure (wpAny_pure hq)
/-- collect of a tuple -/
theorem collect_tup {l : Addr} {vs : List Value} {Q : List Value → Shared → Prop} (hl : s.heap.IsTuple l vs.toArray) (few : vs.length ≤ sizeLine)
    (h : Q vs { s with heap := (s.heap.push (seqObj "list" #[] 0)).update s.heap.objs.size (Obj.mapSeq (· ++ vs.toArray)) }) : wpAny (model prog w) A (collect (.ref l)) Q E s := by
  obtain ⟨o, g1, g2, n, g3⟩ := id hl
  unfold collect
  refine wpAny_bind (wpAny_runValue (codeAny_builtin entry_proto_collect' ?_))
  show wpAny _ _ (do again (.builtin "list.__iadd__" ⟨[← newList [], .ref l], []⟩)) _ _ s
  refine wpAny_bind (wpAny_newList (wpAny_pure ⟨Code.quiet_builtin _ (by decide +kernel), codeAny_builtin entry_list_iadd' ?_⟩))
  have g1' : (s.heap.push (seqObj "list" #[] 0)).get? l = some o := Heap.get?_push_of_some _ g1
  have new0 : (s.heap.push (seqObj "list" #[] 0)).get? s.heap.objs.size = some (seqObj "list" #[] 0) := Heap.get?_push_size _ rfl
  show wpAny _ _ (Builtin.List.listExtendWith (.ref s.heap.objs.size) (.ref l) (.ref s.heap.objs.size)) _ _ { s with heap := s.heap.push (seqObj "list" #[] 0) }
  unfold Builtin.List.listExtendWith
  refine wpAny_bind (wpAny_typeOf (T := "tuple") ⟨o, g1', g2⟩ ?_)
  rw [if_pos (by rw [beq_self_eq_true]; simp)]
  refine wpAny_bind (listItems_at g1' g3 ?_)
  refine wpAny_bind (listItems_at (xs := #[]) (n := 0) new0 rfl ?_)
  rw [if_neg (by simp)]
  refine wpAny_bind (listUpdate_at (xs := #[]) (n := 0) new0 rfl ?_ (Nat.zero_le _) ?_)
  · refine wpAny_pure ?_
    show wpAny (model prog w) A (do
        let o ← load s.heap.objs.size
        match o.data with
        | .seq xs _ => pure xs.toList
        | _ => unsupported "internal:collect") Q E _
    refine wpAny_bind (wpAny_load (get?_update_seq new0 _) ?_)
    refine wpAny_pure ?_
    rw [show ((#[] : Array Value) ++ vs.toArray).toList = vs by simp]
    exact h
  · show (#[] ++ vs.toArray).size ≤ sizeLine + 1
    simp only [Array.size_append, List.size_toArray, List.length_nil]
    omega

/-- sorted of what collect gives -/
theorem sorted_coll {κ : PyProof.Rows.KeyKind} {l : Addr} {vs : List Value} {Q : Value → Shared → Prop} (few : vs.length ≤ sizeLine) (S : SortsAt prog w A.in1.in1 { s with heap := sortingHeap (copyHeap s.heap vs) (s.heap.objs.size + 1) vs } κ vs)
    (coll : ∀ (E : Value → Shared → Prop) (Q : List Value → Shared → Prop), Q vs { s with heap := (s.heap.push (seqObj "list" #[] 0)).update s.heap.objs.size (Obj.mapSeq (· ++ vs.toArray)) } → wpAny (model prog w) A.in1 (collect (.ref l)) Q E s)
    (h : Q (.ref (s.heap.objs.size + 1)) { s with heap := sortedAll s.heap vs (sortVals κ false vs vs).toArray }) : wpAny (model prog w) A (call (.builtin "sorted") [.ref l]) Q E s := by
  refine Calls.call_function_entry kind_sorted plain_sorted entry_sorted (args_sorted1 _) ?_
  unfold Builtin.«sorted»
  refine wpAny_bind (m := checkCount "sorted" 1 1 _) (wpAny_pure ?_)
  refine wpAny_bind (coll _ _ ?_)
  refine wpAny_bind (wpAny_newList ?_ few)
  show wpAny _ _ _ _ _ { s with heap := copyHeap s.heap vs }
  have size1 : ((s.heap.push (seqObj "list" #[] 0)).update s.heap.objs.size (Obj.mapSeq (· ++ vs.toArray))).objs.size = s.heap.objs.size + 1 := by rw [Heap.size_update, size_push']
  rw [size1]
  refine wpAny_bind (wpAny_holding (wpAny_call_entry slot_list_sort ⟨_, copyHeap_at s.heap vs, rfl⟩ entry_list_sort ?_ (args_list_sort _)))
  exact list_sort_vals (s := { s with heap := copyHeap s.heap vs }) (copyHeap_at s.heap vs) S few ⟨_, rfl, wpAny_pure ⟨_, rfl, h⟩⟩
end
/-- the order of values, by what they show -/
def shownD (S : Store) (d : D) : PyData := (deep S deepLine d).getD .none
def leD (S : Store) : D → D → Bool := sortLe (listOrd itemOrd) false fun d => keyToks (shownD S d)
def okSort (ps : List PyData) : Bool := (ps.all fun p => ps.all fun q => alike p q) && ps.all fun p => (match p with | .none => false | _ => true) && decide (p.depth ≤ 40) && p.canLay0
def sortD (S : Store) (ds : List D) : Res D := match mapO (deep S deepLine) ds with
  | some ps => if okSort ps = true then .ok (.ptr S.length) (S ++ [.lst (ds.mergeSort (leD S))]) else .bad
  | none => .bad
def fSorted : Fn
  | [.tup ds], S => sortD S ds
  | [.ptr n], S => match S[n]? with
    | some (.lst ds) => sortD S ds
    | some (.rol ds) => sortD S ds
    | _ => .bad
  | _, _ => .bad
/-- what the rule asks: a sequence of values and what they show; what it gives: the sorted list -/
def rSorted (K : PySem.W.Frag) : List V → Hp → VK → Prop := fun xs H Q => ∃ a vs ds ps φ S, xs = [.ref a] ∧ (SqL K H a vs ∨ SqT K H a vs) ∧ RS K H φ S ∧ RDs K H φ ds vs ∧ mapO (deep S deepLine) ds = some ps ∧ okSort ps = true ∧
  ∀ us p, RDs K H φ (ds.mergeSort (leD S)) us → H p = none → Q (.ref p) (upd H p (.lst us))
section
variable {X : Cx} {W : WX} {k : Nat}
theorem mapO_each {α β : Type} {f : α → Option β} : ∀ {xs : List α} {ys : List β}, mapO f xs = some ys → EachIs (fun x y => f x = some y) xs ys
  | [], _, e => by unfold mapO at e; cases e; exact .nil
  | x :: xs, _, e => by
    obtain ⟨y, ys, h1, h2, rfl⟩ := mapO_cons e
    exact .cons h1 (mapO_each h2)
theorem okSort_of {ps : List PyData} (h : okSort ps = true) : AllAlike ps ∧ (∀ p ∈ ps, p ≠ .none) ∧ (∀ p ∈ ps, p.depth ≤ 40) ∧ ∀ p ∈ ps, p.canLay0 = true := by
  unfold okSort at h
  simp only [Bool.and_eq_true, List.all_eq_true, decide_eq_true_eq] at h
  refine ⟨fun d hd d' hd' => h.1 d hd d' hd', fun p hp e => ?_, fun p hp => (h.2 p hp).1.2, fun p hp => (h.2 p hp).2⟩
  have := (h.2 p hp).1.1
  subst e
  cases this
theorem reads_each {pins : List (Addr × Obj)} {σ : L2.St} {H : Hp} {s : Shared} {φ : List Addr} {S : Store} (I : Inv X pins σ H s) (rs : RS X.K H φ S) : ∀ {ds : List D} {ps : List PyData} {vs : List V} {its : List Value}, EachIs (fun d p => deep S deepLine d = some p) ds ps → (∀ p ∈ ps, p.canLay0 = true) → RDs X.K H φ ds vs → Vals vs its →
    EachIs (fun v p => ∃ as, Reads s.heap v p as) its ps
  | [], _, _, _, .nil, _, r, q => by
    unfold RDs at r; subst r; cases q; exact .nil
  | d :: ds, _, _, _, .cons e es, c, r, q => by
    unfold RDs at r
    obtain ⟨v, vs', rfl, r1, r2⟩ := r
    cases q with
    | cons q1 q2 =>
      refine .cons ?_ (reads_each I rs es (fun p hp => c p (List.mem_cons_of_mem _ hp)) r2 q2)
      exact Dp.reads I _ _ _ (deep_dp rs _ _ _ _ r1 e (c _ List.mem_cons_self)) q1
theorem each_pairs {K : PySem.W.Frag} {H : Hp} {φ : List Addr} : ∀ {ds : List D} {vs : List V} {its : List Value}, RDs K H φ ds vs → Vals vs its → EachIs (fun u (b : D × V) => RelV b.2 u ∧ RD K H φ b.1 b.2) its (ds.zip vs)
  | [], _, _, r, q => by unfold RDs at r; subst r; cases q; exact .nil
  | d :: ds, _, _, r, q => by
    unfold RDs at r
    obtain ⟨v, vs', rfl, r1, r2⟩ := r
    cases q with
    | cons q1 q2 => exact .cons ⟨q1, r1⟩ (each_pairs r2 q2)
theorem each_keysP {h : Heap} {S : Store} {all : List PyData} (hal : AllAlike all) : ∀ {ds : List D} {ps : List PyData} {vs : List V} {its : List Value}, (∀ p ∈ ps, p ∈ all) → EachIs (fun d p => deep S deepLine d = some p) ds ps → ds.length = vs.length → EachIs (fun v p => ∃ as, Reads h v p as) its ps →
    EachIs (fun v (b : D × V) => (dataKind h all).keyOf v = some (keyToks (shownD S b.1))) its (ds.zip vs)
  | [], _, _, _, _, .nil, _, .nil => .nil
  | d :: ds, _, [], _, _, .cons _ _, l, _ => by cases l
  | d :: ds, _, v :: vs, _, m, .cons e es, l, .cons r rs => by
    refine .cons ?_ (each_keysP hal (fun p hp => m p (List.mem_cons_of_mem _ hp)) es (Nat.succ.inj l) rs)
    obtain ⟨as, r⟩ := r
    show _ = some (keyToks (shownD S d))
    unfold shownD
    rw [e]
    exact dataKind_some hal (m _ List.mem_cons_self) r
theorem each_out {K : PySem.W.Frag} {H : Hp} {φ : List Addr} : ∀ {out : List Value} {bs : List (D × V)}, EachIs (fun u (b : D × V) => RelV b.2 u ∧ RD K H φ b.1 b.2) out bs → Vals (bs.map (·.2)) out ∧ RDs K H φ (bs.map (·.1)) (bs.map (·.2))
  | _, _, .nil => ⟨.nil, RDs.nil⟩
  | _, _, .cons h t => ⟨.cons h.1 (each_out t).1, RDs.cons h.2 (each_out t).2⟩
theorem call_sorted (c : Ctx X W k) : CallR X (.builtin "sorted") (rSorted X.K) := by
  intro pins s σ H xs us Q I r h
  obtain ⟨a, vs, ds, ps, φ, S, rfl, seq, rs, rd, sh, ok, q⟩ := h
  obtain ⟨u, rfl, ru⟩ := vals1 r
  cases ru
  obtain ⟨hal, hnn, hdp, hcl⟩ := okSort_of ok
  have each := mapO_each sh
  have go : ∀ its : List Value, Vals vs its → vs.length ≤ sizeLine → (∀ (E : Value → Shared → Prop) (Q : List Value → Shared → Prop), Q its { s with heap := (s.heap.push (seqObj "list" #[] 0)).update s.heap.objs.size (Obj.mapSeq (· ++ its.toArray)) } → wpAny (model X.prog X.w) X.A.in1 (collect (.ref a)) Q E s) →
      wpAny (model X.prog X.w) X.A (call (.builtin "sorted") [.ref a]) (EP X pins σ Q) X.xe s := by
    intro its rv few coll
    have reads := reads_each I rs each hcl rd rv
    have few2 : its.length ≤ sizeLine := by rw [← rv.length]; exact few
    have reads2 : EachIs (fun v p => ∃ as, Reads (sortingHeap (copyHeap s.heap its) (s.heap.objs.size + 1) its) v p as) its ps := reads.mono fun v p ⟨as, r⟩ => ⟨as, Reads.keeps (fun b o e => sorting_copy_old e) r⟩
    refine sorted_coll few2 (sortsAt_any (s := { s with heap := sortingHeap (copyHeap s.heap its) (s.heap.objs.size + 1) its }) reads2 hal hnn fun d hd => ?_) coll ?_
    · show X.A.units + 1 + 1 + d.depth < cLine
      have := c.hr.units
      have := hdp d hd
      omega
    · have l1 : ds.length = vs.length := rd.length.symm
      have outs := sortVals_each (κ := dataKind (sortingHeap (copyHeap s.heap its) (s.heap.objs.size + 1) its) ps) (rev := false) (fun b : D × V => keyToks (shownD S b.1)) (each_pairs rd rv) (each_keysP hal (fun p hp => hp) each l1 reads2)
      obtain ⟨o1, o2⟩ := each_out outs
      have order : ((ds.zip vs).mergeSort (sortLe (listOrd itemOrd) false fun b : D × V => keyToks (shownD S b.1))).map (·.1) = ds.mergeSort (leD S) := by
        have z := List.map_mergeSort (f := fun b : D × V => b.1) (l := ds.zip vs) (r := sortLe (listOrd itemOrd) false fun b : D × V => keyToks (shownD S b.1)) (s := leD S) (fun x _ y _ => rfl)
        rw [z, List.map_fst_zip (Nat.le_of_eq l1)]
      obtain ⟨n, at_⟩ := sortedAll_at s.heap its (sortVals (dataKind (sortingHeap (copyHeap s.heap its) (s.heap.objs.size + 1) its) ps) false its its).toArray
      have o3 : RDs X.K H φ (ds.mergeSort (leD S)) (((ds.zip vs).mergeSort (sortLe (listOrd itemOrd) false fun b : D × V => keyToks (shownD S b.1))).map (·.2)) := order ▸ o2
      have free : H (s.heap.objs.size + 1) = none := I.hok.fresh (Nat.le_succ _)
      refine ⟨.ref (s.heap.objs.size + 1), upd H (s.heap.objs.size + 1) (.lst _), I.laid (t' := s.toks) (fun b o e => sortedAll_old e) (Nat.le_succ _) ⟨?_, _, n, o1, at_⟩, rfl, q _ _ o3 free⟩
      rw [List.length_map, List.length_mergeSort, List.length_zip, l1, Nat.min_self]
      exact few
  rcases seq with seq | seq
  · obtain ⟨its, rv, ⟨o, n, g1, g2, _, g3⟩, few⟩ := I.list seq
    exact go its rv few fun E Q h => collect_list ⟨o, g1, g2, n, g3⟩ h (by rw [← rv.length]; exact few)
  · obtain ⟨its, rv, ⟨o, g1, g2, n, g3⟩, few⟩ := I.tuple seq
    exact go its rv few fun E Q h => collect_tup ⟨o, g1, g2, n, g3⟩ (by rw [← rv.length]; exact few) h
theorem cd_sorted : CallD X (rSorted X.K) fSorted := by
  intro W σ φ H S xs vs Q rs r h
  have fin : ∀ (a : Addr) (ds : List D) (ys : List V), (SqL X.K H a ys ∨ SqT X.K H a ys) → RDs X.K H φ ds ys → LK X W σ φ H (sortD S ds) (fun d _ φ' H' => ∀ v, RD X.K H' φ' d v → Q v H') → rSorted X.K [.ref a] H Q := by
    intro a ds ys seq rd h
    unfold sortD at h
    split at h
    · rename_i ps hp
      split at h
      · rename_i ok
        refine ⟨a, ys, ds, ps, φ, S, rfl, seq, rs, rd, hp, ok, fun us p hu free => ?_⟩
        obtain ⟨z1, z2, z3⟩ := od_newC rs hu free
        exact h _ _ z2 z1 _ z3
      · exact h.elim
    · exact h.elim
  unfold fSorted at h
  split at h
  · obtain ⟨v, rfl, rx⟩ := r.one
    unfold RD at rx
    obtain ⟨a, ys, rfl, hx, qx⟩ := rx
    exact fin a _ ys (.inr hx) qx h
  · obtain ⟨v, rfl, rx⟩ := r.one
    unfold RD at rx
    obtain ⟨a, ha, rfl⟩ := rx
    split at h
    · rename_i ys hS
      obtain ⟨a', xs, q1, q2, q3⟩ := rs.seqL (.inl hS)
      rw [ha] at q1; cases q1
      exact fin a _ xs (.inl q2) q3 h
    · rename_i ys hS
      obtain ⟨a', xs, q1, q2, q3⟩ := rs.seqL (.inr hS)
      rw [ha] at q1; cases q1
      exact fin a _ xs (.inl q2) q3 h
    · exact h.elim
  · exact h.elim
end
end RL

namespace RL
open PySem PySem.Spec PyProof.Rows L2

/-! ### more expressions -/
section
variable {X : Cx} {W : WX} {k : Nat} {e : Expr} {es : List Expr} {pos p : Pos} {me : ME} {ms : MA}
def eNeg (me : ME) : ME := fun ρ S => (me ρ S).bind fun x S1 => match x with
  | .int i => .ok (.int (-i)) S1
  | _ => .bad
theorem se_neg (ha : SE X W e me) : SE X W (.UnaryOp .USub e pos) (eNeg me) := by
  refine (pe_un un_neg ha).imp fun σ H Q => ?_
  rintro ⟨φ, ρ, S, re, rs, h⟩
  refine LE.to re rs h fun x S1 φ1 H1 v x1 rs1 re1 rd kk => ?_
  split at kk
  · unfold RD at rd; exact ⟨_, rd, kk.ok rs1 _ rd_int⟩
  · exact kk.elim
/-- any value as a test -/
def truD (S : Store) : D → Option Bool
  | .non => some false
  | .bl b => some b
  | .int i => some (i != 0)
  | .str y => if y.length ≤ sizeLine then some ((y.length : Int) != 0) else none
  | .tup xs => some (!xs.isEmpty)
  | .ptr n => match S[n]? with
    | some (.lst xs) => some (!xs.isEmpty)
    | some (.rol xs) => some (!xs.isEmpty)
    | some (.dct kvs) => some (!kvs.isEmpty)
    | some (.dcx _) => none
    | some (.rox _) => none
    | none => none
def tTru (me : ME) : MT := fun ρ S => (me ρ S).bind fun x S1 => match truD S1 x with
  | some b => .ok b S1
  | none => .bad
theorem RDs.isEmpty {K : PySem.W.Frag} {H : Hp} {φ : List Addr} {ds : List D} {vs : List V} (r : RDs K H φ ds vs) : vs.isEmpty = ds.isEmpty := by
  cases ds with
  | nil => unfold RDs at r; rw [r]; rfl
  | cons d ds => unfold RDs at r; obtain ⟨v, vs', rfl, _⟩ := r; rfl
theorem RKv.isEmpty {K : PySem.W.Frag} {H : Hp} {φ : List Addr} {ds : List (L2.Key × D)} {vs : List (L2.Key × V)} (r : RKv K H φ ds vs) : vs.isEmpty = ds.isEmpty := by
  cases ds with
  | nil => unfold RKv at r; rw [r]; rfl
  | cons d ds => obtain ⟨k, d⟩ := d; unfold RKv at r; obtain ⟨v, vs', rfl, _⟩ := r; rfl
theorem truD_ok {H : Hp} {φ : List Addr} {S : Store} {d : D} {v : V} {b : Bool} (rs : RS X.K H φ S) (rd : RD X.K H φ d v) (h : truD S d = some b) : TruV X.K v H b := by
  cases d with
  | non => unfold RD at rd; subst rd; cases h; rfl
  | bl c => unfold RD at rd; subst rd; cases h; rfl
  | int c => unfold RD at rd; subst rd; cases h; rfl
  | str c =>
    unfold RD at rd; subst rd
    have h : (if c.length ≤ sizeLine then some ((c.length : Int) != 0) else none) = some b := h
    split at h
    · cases h; exact ⟨by assumption, rfl⟩
    · cases h
  | tup ds =>
    unfold RD at rd
    obtain ⟨a, xs, rfl, s, r⟩ := rd
    cases h
    exact .inr (.inl ⟨xs, s, by rw [r.isEmpty]⟩)
  | ptr n =>
    unfold RD at rd
    obtain ⟨a, ha, rfl⟩ := rd
    have h : (match S[n]? with
      | some (.lst xs) => some (!xs.isEmpty)
      | some (.rol xs) => some (!xs.isEmpty)
      | some (.dct kvs) => some (!kvs.isEmpty)
      | some (.dcx _) => none
      | some (.rox _) => none
      | none => none) = some b := h
    split at h
    · rename_i ys hS
      obtain ⟨a', xs, q1, q2, q3⟩ := rs.seqL (.inl hS)
      rw [ha] at q1; cases q1; cases h
      exact .inl ⟨xs, q2, by rw [q3.isEmpty]⟩
    · rename_i ys hS
      obtain ⟨a', xs, q1, q2, q3⟩ := rs.seqL (.inr hS)
      rw [ha] at q1; cases q1; cases h
      exact .inl ⟨xs, q2, by rw [q3.isEmpty]⟩
    · rename_i ys hS
      obtain ⟨a', q1, xs, q2, q3⟩ := rs.at hS
      rw [ha] at q1; cases q1; cases h
      exact .inr (.inr ⟨xs, q2, by rw [q3.isEmpty]⟩)
    · cases h
    · cases h
    · cases h
theorem st_tru (ha : SE X W e me) (he : ∀ whole, isTrue e X.env whole = (do let v ← whole; standAt e.pos; holding [v] (truthy v)) := by intro _; rfl) : ST X W e (tTru me) := by
  refine (pt_truth ha he).imp fun σ H Q => ?_
  rintro ⟨φ, ρ, S, re, rs, h⟩
  refine LE.to re rs h fun x S1 φ1 H1 v x1 rs1 re1 rd kk => ?_
  split at kk
  · rename_i b hb
    exact ⟨b, truD_ok rs1 rd hb, kk.ok rs1⟩
  · exact kk.elim

open Classical in
noncomputable def fLstRg (a b : Int) (S : Store) : Res D := if RgOk a b then .ok (.ptr S.length) (S ++ [.lst (rangeD a (b - a).toNat)]) else .bad
open Classical in
noncomputable def fTupRg (a b : Int) (S : Store) : Res D := if RgOk a b then .ok (.tup (rangeD a (b - a).toNat)) S else .bad
def eRg1 (f : Int → Int → Store → Res D) (me : ME) : ME := fun ρ S => (me ρ S).bind fun x S1 => match x with
  | .int n => f 0 n S1
  | _ => .bad
def eRg2 (f : Int → Int → Store → Res D) (me mb : ME) : ME := fun ρ S => (me ρ S).bind fun x S1 => (mb ρ S1).bind fun y S2 => match x, y with
  | .int a, .int b => f a b S2
  | _, _ => .bad
theorem rds_rg {K : PySem.W.Frag} {H : Hp} {φ : List Addr} (a b : Int) : RDs K H φ (rangeD a (b - a).toNat) (rgV a b) := by
  unfold rangeD rgV
  generalize List.range (b - a).toNat = l
  induction l with
  | nil => exact RDs.nil
  | cons x l ih => exact RDs.cons rd_int ih
theorem prg_imp {t t' : L2.St → Hp → (Int → Int → Hp → Prop) → Prop} (h : PRg X e t) (i : ∀ σ H Q, t' σ H Q → t σ H Q) : PRg X e t' := fun pins s σ H Q I q => h pins s σ H Q I (i σ H Q q)
open Classical in
theorem LK.ifRg {σ : L2.St} {φ : List Addr} {H : Hp} {a b : Int} {P : D → Store → List Addr → Hp → Prop} {r : Res D} (h : LK X W σ φ H (if RgOk a b then r else .bad) P) : RgOk a b ∧ LK X W σ φ H r P := by
  by_cases q : RgOk a b
  · rw [if_pos q] at h; exact ⟨q, h⟩
  · rw [if_neg q] at h; exact h.elim
theorem se_listRg1 {q : Pos} {a : Expr} {mb : ME} (c : Ctx X W k) (hm : X.mg "list" = none) (hr : X.mg "range" = none) (ha : SE X W a mb) (hg : Gl X "list" := by rfl) (hgr : Gl X "range" := by rfl)
    (na : starEach [a] X.env = (false, eval a X.env) :: starEach [] X.env := by rfl) (nb : starEach [.Call (.Name "range" q) [a] [] p] X.env = (false, eval (.Call (.Name "range" q) [a] [] p) X.env) :: starEach [] X.env := by rfl) {r : Pos} :
    SE X W (.Call (.Name "list" r) [.Call (.Name "range" q) [a] [] p] [] pos) (eRg1 fLstRg mb) := by
  refine (pe_listRg c.calm hg hm (prg_1 hgr hr ha na) nb).imp fun σ H Q => ?_
  rintro ⟨φ, ρ, S, re, rs, h⟩
  refine LE.to re rs h fun x S1 φ1 H1 v x1 rs1 re1 rd kk => ?_
  split at kk
  · unfold RD at rd
    obtain ⟨ok, kk⟩ := LK.ifRg kk
    refine ⟨_, rd, ok, fun q hq => ?_⟩
    obtain ⟨z1, z2, z3⟩ := od_newC rs1 (rds_rg 0 _) hq
    exact kk _ _ z2 z1 _ z3
  · exact kk.elim
theorem se_tupRg1 {q : Pos} {a : Expr} {mb : ME} (c : Ctx X W k) (hm : X.mg "tuple" = none) (hr : X.mg "range" = none) (ha : SE X W a mb) (hg : Gl X "tuple" := by rfl) (hgr : Gl X "range" := by rfl)
    (na : starEach [a] X.env = (false, eval a X.env) :: starEach [] X.env := by rfl) (nb : starEach [.Call (.Name "range" q) [a] [] p] X.env = (false, eval (.Call (.Name "range" q) [a] [] p) X.env) :: starEach [] X.env := by rfl) {r : Pos} :
    SE X W (.Call (.Name "tuple" r) [.Call (.Name "range" q) [a] [] p] [] pos) (eRg1 fTupRg mb) := by
  refine (pe_tupRg c.calm hg hm (prg_1 hgr hr ha na) nb).imp fun σ H Q => ?_
  rintro ⟨φ, ρ, S, re, rs, h⟩
  refine LE.to re rs h fun x S1 φ1 H1 v x1 rs1 re1 rd kk => ?_
  split at kk
  · unfold RD at rd
    obtain ⟨ok, kk⟩ := LK.ifRg kk
    exact ⟨_, rd, ok, fun q hq => kk φ1 _ (Ext.new hq) (rs1.new hq) _ (od_new (rds_rg 0 _) hq)⟩
  · exact kk.elim
theorem se_listRg2 {q : Pos} {a b : Expr} {ma mb : ME} (c : Ctx X W k) (hm : X.mg "list" = none) (hr : X.mg "range" = none) (ha : SE X W a ma) (hb : SE X W b mb) (hg : Gl X "list" := by rfl) (hgr : Gl X "range" := by rfl)
    (na : starEach [a, b] X.env = (false, eval a X.env) :: starEach [b] X.env := by rfl) (nb : starEach [b] X.env = (false, eval b X.env) :: starEach [] X.env := by rfl) (hp : (backTo p (starEach [b] X.env)).any (·.1) = false := by rfl)
    (nc : starEach [.Call (.Name "range" q) [a, b] [] p] X.env = (false, eval (.Call (.Name "range" q) [a, b] [] p) X.env) :: starEach [] X.env := by rfl) {r : Pos} :
    SE X W (.Call (.Name "list" r) [.Call (.Name "range" q) [a, b] [] p] [] pos) (eRg2 fLstRg ma mb) := by
  refine (pe_listRg c.calm hg hm (prg_2 hgr hr ha hb na nb hp) nc).imp fun σ H Q => ?_
  rintro ⟨φ, ρ, S, re, rs, h⟩
  refine LE.to re rs h fun x S1 φ1 H1 v x1 rs1 re1 rd k1 => LE.to re1 rs1 k1 fun y S2 φ2 H2 u x2 rs2 re2 rd2 kk => ?_
  split at kk
  · unfold RD at rd rd2
    obtain ⟨ok, kk⟩ := LK.ifRg kk
    refine ⟨_, _, rd, rd2, ok, fun q hq => ?_⟩
    obtain ⟨z1, z2, z3⟩ := od_newC rs2 (rds_rg _ _) hq
    exact kk _ _ z2 z1 _ z3
  · exact kk.elim

/-! ### xs[::-1] -/
section
variable {prog : Program} {w : World} {A : Around} {E : Value → Shared → Prop} {s : Shared}
theorem rev_places (n : Nat) : Builtin.Slice.slicePlaces ((n : Int) - 1) (-1) (-1) = n := by
  unfold Builtin.Slice.slicePlaces
  simp
  omega
theorem rev_adjust (n : Nat) : Builtin.Slice.sliceAdjust none none (-1) (n : Int) = ((n : Int) - 1, -1) := by
  unfold Builtin.Slice.sliceAdjust
  simp
theorem rev_pick (xs : Array Value) : ((List.range xs.size).filterMap fun (m : Nat) => xs[(((xs.size : Int) - 1) + (m : Int) * (-1)).toNat]?).toArray = xs.toList.reverse.toArray := by
  have e : ∀ m ∈ List.range xs.size, xs[(((xs.size : Int) - 1) + (m : Int) * (-1)).toNat]? = xs[xs.size - 1 - m]? := fun m hm => by
    have := List.mem_range.mp hm
    have : (((xs.size : Int) - 1) + (m : Int) * (-1)).toNat = xs.size - 1 - m := by omega
    rw [this]
  have cong : ∀ l : List Nat, (∀ m ∈ l, m ∈ List.range xs.size) → l.filterMap (fun (m : Nat) => xs[(((xs.size : Int) - 1) + (m : Int) * (-1)).toNat]?) = l.filterMap fun m => xs[xs.size - 1 - m]? := by
    intro l
    induction l with
    | nil => intro _; rfl
    | cons m l ih =>
      intro hl
      rw [List.filterMap_cons, List.filterMap_cons, e m (hl m List.mem_cons_self), ih fun m hm => hl m (List.mem_cons_of_mem _ hm)]
  rw [cong _ fun _ h => h]
  congr 1
  apply List.ext_getElem?
  intro i
  have all : ∀ l : List Nat, (∀ m ∈ l, m < xs.size) → l.filterMap (fun m => xs[xs.size - 1 - m]?) = l.map fun m => xs.toList.getD (xs.size - 1 - m) .none := by
    intro l
    induction l with
    | nil => intro _; rfl
    | cons m l ih =>
      intro hl
      have hm := hl m List.mem_cons_self
      have h1 : xs[xs.size - 1 - m]? = some xs[xs.size - 1 - m] := Array.getElem?_eq_getElem (by omega)
      rw [List.filterMap_cons, h1, ih fun m hm => hl m (List.mem_cons_of_mem _ hm), List.map_cons]
      congr 1
      rw [List.getD_eq_getElem?_getD, Array.getElem?_toList, h1]
      rfl
  rw [all _ fun m hm => List.mem_range.mp hm]
  by_cases hi : i < xs.size
  · rw [List.getElem?_map, List.getElem?_range hi, List.getElem?_reverse (by simpa using hi)]
    simp only [Option.map_some, Array.length_toList]
    rw [List.getD_eq_getElem?_getD, Array.getElem?_toList, Array.getElem?_eq_getElem (by omega)]
    rfl
  · rw [List.getElem?_eq_none (by simp; omega), List.getElem?_eq_none (by simp; omega)]
theorem getItem_tup_rev {t sl : Addr} {items : Array Value} {vl vu vs : Value} {Q : Value → Shared → Prop} (ht : IsTup s.heap t items) (hs : s.heap.IsSliceOf sl vl vu vs) (pl : IsPart vl none) (pu : IsPart vu none) (ps : IsPart vs (some (-1)))
    (h : Q (.ref s.heap.objs.size) { s with heap := s.heap.push { cls := .type "tuple", data := .seq items.toList.reverse.toArray } }) (few : items.size ≤ sizeLine) : wpAny (model prog w) A (getItem (.ref t) (.ref sl)) Q E s := by
  obtain ⟨os, hos, hcs, hds⟩ := id hs
  have isSlice : s.TypeIs (.ref sl) "slice" := ⟨os, hos, hcs⟩
  have fits : sizeOk (.seq items.toList.reverse.toArray) := by
    show items.toList.reverse.toArray.size ≤ sizeLine
    rw [List.size_toArray, List.length_reverse, Array.length_toList]
    exact few
  unfold getItem
  try with_reducible refine wpAny_holding ?_
  first | refine wpAny_bind (wpAny_pure ?_) | skip
  refine wpAny_bind (wpAny_sequenceKey ht.typeIs (by decide) ?_)
  refine wpAny_bind (wpAny_callSpecial?_slot (name := Str.ofString "__getitem__") ht.typeIs PyProof.Rows.slot_tuple_getitem
    (wpAny_call_entry PyProof.Rows.slot_tuple_getitem ht.typeIs entry_tuple_getitem ?_ (args_tuple_getitem _ _)))
  show wpAny _ _ (Builtin.Tuple.tupleItemsOf (.ref t) >>= _) _ _ s
  refine wpAny_bind (PyProof.Rows.tupleItemsOf_ ht ?_)
  refine wpAny_bind (wpAny_typeOf isSlice ?_)
  rw [if_pos (by decide)]
  have applied : ∀ (Q : Int × Int × Nat → Shared → Prop), Q ((items.size : Int) - 1, -1, items.size) s → ∀ E, wpAny (model prog w) A.in1 (Builtin.Slice.sliceApplied (.ref sl) (pure ((items.size : Nat) : Int))) Q E s := by
    intro Q h E
    unfold Builtin.Slice.sliceApplied Builtin.Slice.sliceFields
    refine wpAny_bind (wpAny_bind (wpAny_field hos hds (x := vl) rfl (wpAny_bind (wpAny_field hos hds (x := vu) rfl (wpAny_bind (wpAny_field hos hds (x := vs) rfl (wpAny_pure ?_)))))))
    refine wpAny_bind (HT.slicePart_ ps ?_)
    show wpAny _ _ (if ((-1 : Int) == 0) = true then _ else _) _ _ s
    rw [if_neg (by decide)]
    refine wpAny_bind (HT.slicePart_ pl (wpAny_bind (HT.slicePart_ pu (wpAny_bind (wpAny_pure ?_)))))
    show wpAny _ _ (match Builtin.Slice.sliceAdjust none none (-1) (items.size : Int) with | (lo, hi) => pure (lo, (-1 : Int), Builtin.Slice.slicePlaces lo hi (-1))) _ _ s
    rw [rev_adjust]
    show wpAny _ _ (pure ((items.size : Int) - 1, (-1 : Int), Builtin.Slice.slicePlaces ((items.size : Int) - 1) (-1) (-1))) _ _ s
    rw [rev_places]
    exact wpAny_pure h
  refine wpAny_bind (applied _ ?_ _)
  have no : ¬ ((((items.size : Int) - 1) == 0 && (-1 : Int) == 1 && items.size == items.size) = true) := by simp
  show wpAny _ _ (if (((items.size : Int) - 1) == 0 && (-1 : Int) == 1 && items.size == items.size) = true then _ else _) _ _ s
  rw [if_neg no, rev_pick]
  first
    | exact wpAny_bind (m := Builtin.Tuple.tupleExact _) (wpAny_newObj_type (wpAny_pure ⟨_, rfl, wpAny_pure h⟩) fits)
    | exact wpAny_bind (m := Builtin.Tuple.tupleExact _) (wpAny_newObj_type (wpAny_bind (wpAny_pure (wpAny_pure ⟨_, rfl, wpAny_pure h⟩))) fits)
    | exact wpAny_bind (wpAny_bind (m := Builtin.Tuple.tupleExact _) (wpAny_newObj_type (wpAny_pure (wpAny_pure ⟨_, rfl, wpAny_pure h⟩)) fits))
    | exact wpAny_bind (wpAny_bind (m := Builtin.Tuple.tupleExact _) (wpAny_newObj_type (wpAny_pure ⟨_, rfl, wpAny_pure h⟩) fits))
end
end
end RL

namespace RL
open PySem PySem.Spec PyProof.Rows L2

/-! ### e[::-1] -/
def tRevA (K : PySem.W.Frag) (te : TE) : TE := fun σ H Q => te σ H fun x H1 =>
  (∃ a xs, x = .ref a ∧ SqL K H1 a xs ∧ ∀ p, H1 p = none → Q (.ref p) (upd H1 p (.lst xs.reverse))) ∨
  (∃ a xs, x = .ref a ∧ SqT K H1 a xs ∧ ∀ p, H1 p = none → Q (.ref p) (upd H1 p (.tup xs.reverse)))
section
variable {X : Cx} {W : WX} {k : Nat} {e : Expr} {es : List Expr} {pos : Pos} {me : ME} {ms : MA}
theorem pe_revA {te : TE} {kk : Nat} {p1 p2 p3 : Pos} (he : PE X e te) : PE X (.Subscript e (.Slice none none (some (.UnaryOp .USub (.Constant (.int 1) kk p1) p2)) p3) pos) (tRevA X.K te) := by
  refine ⟨fun pins s σ H Q I h => ?_⟩
  refine Subscript_ (thn (he.run pins s σ H _ I h) fun v s1 ⟨x, H1, I1, r1, q1⟩ => ?_)
  have step : PO X (some (.UnaryOp .USub (.Constant (.int 1) kk p1) p2)) (tPart (tUn (rU fun i => .int (-i)) (tC (.int 1)))) := po_some (pe_un un_neg pe_int)
  refine wpAny_Slice (thn (po_none.run pins s1 σ H1 (fun o H2 => o = none ∧ H2 = H1) I1 ⟨rfl, rfl⟩) fun vl s2 ⟨l, H2, I2, pl, el, e2⟩ => ?_)
  subst el e2
  refine thn (po_none.run pins s2 σ H2 (fun o H3 => o = none ∧ H3 = H2) I2 ⟨rfl, rfl⟩) fun vu s3 ⟨u, H3, I3, pu, eu, e3⟩ => ?_
  subst eu e3
  refine thn (step.run pins s3 σ H3 (fun o H4 => o = some (-1) ∧ H4 = H3) I3 ⟨1, rfl, -1, rfl, rfl, rfl⟩) fun vs s4 ⟨o, H4, I4, ps, eo, e4⟩ => ?_
  subst eo e4
  have I5 : Inv X pins σ H4 { s4 with heap := s4.heap.push { cls := .type "slice", data := .fields #[vl, vu, vs] } } := I4.kept (t' := s4.toks) fun b ob q => Heap.get?_push_of_some _ q
  rcases q1 with ⟨a, xs, rfl, hx, q⟩ | ⟨a, xs, rfl, hx, q⟩
  · cases r1
    obtain ⟨its, r, ht, hz⟩ := I5.list hx
    have hlen := r.length
    show wpAny (model X.prog X.w) X.A (subscriptTail e (.Slice none none (some (.UnaryOp .USub (.Constant (.int 1) kk p1) p2)) p3) (.ref a) (.ref s4.heap.objs.size)) (EP X pins σ Q) X.xe _
    refine tail_any (ops := [.ref a, .ref s4.heap.objs.size]) ht.isList.typeIs (PySem.slot_list_getitem.lookup) ?_ (by with_unfolding_all rfl)
    refine wpAny_getItem_list_slice ht.isList (Heap.IsSliceOf.new _ vl vu vs) pl pu ps (by decide) ?_ (by rw [List.size_toArray]; omega)
    rw [PySem.W.krv_pick]
    refine ⟨.ref _, _, I5.laid (t' := s4.toks) (o := .lst xs.reverse) (fun b ob q => Heap.get?_push_of_some _ q) (Nat.le_refl _) ?_, rfl, q _ (I5.hok.fresh (Nat.le_refl _))⟩
    exact ⟨by rw [List.length_reverse]; exact hz, _, 0, r.reverse, Heap.get?_push_size _ rfl⟩
  · cases r1
    obtain ⟨its, r, ht, hz⟩ := I5.tuple hx
    have hlen := r.length
    show wpAny (model X.prog X.w) X.A (subscriptTail e (.Slice none none (some (.UnaryOp .USub (.Constant (.int 1) kk p1) p2)) p3) (.ref a) (.ref s4.heap.objs.size)) (EP X pins σ Q) X.xe _
    refine tail_any (ops := [.ref a, .ref s4.heap.objs.size]) ht.typeIs (PyProof.Rows.slot_tuple_getitem.lookup) ?_ (by with_unfolding_all rfl)
    refine getItem_tup_rev ht (Heap.IsSliceOf.new _ vl vu vs) pl pu ps ?_ (by rw [List.size_toArray]; omega)
    refine ⟨.ref _, _, I5.laid (t' := s4.toks) (o := .tup xs.reverse) (fun b ob q => Heap.get?_push_of_some _ q) (Nat.le_refl _) ?_, rfl, q _ (I5.hok.fresh (Nat.le_refl _))⟩
    exact ⟨by rw [List.length_reverse]; exact hz, _, r.reverse, IsTup.new _ _⟩
def oRev (x : D) (S : Store) : Res D := match x with
  | .tup xs => .ok (.tup xs.reverse) S
  | .ptr n => match S[n]? with
    | some (.lst xs) => .ok (.ptr S.length) (S ++ [.lst xs.reverse])
    | some (.rol xs) => .ok (.ptr S.length) (S ++ [.lst xs.reverse])
    | _ => .bad
  | _ => .bad
def eRev (me : ME) : ME := fun ρ S => (me ρ S).bind fun x S1 => oRev x S1
theorem se_rev {kk : Nat} {p1 p2 p3 : Pos} (he : SE X W e me) : SE X W (.Subscript e (.Slice none none (some (.UnaryOp .USub (.Constant (.int 1) kk p1) p2)) p3) pos) (eRev me) := by
  refine (pe_revA he).imp fun σ H Q => ?_
  rintro ⟨φ, ρ, S, re, rs, h⟩
  refine LE.to re rs h fun x S1 φ1 H1 vx x1 rs1 re1 rx h1 => ?_
  unfold oRev at h1
  split at h1
  · unfold RD at rx
    obtain ⟨a, xs, rfl, hx, qx⟩ := rx
    exact .inr ⟨a, xs, rfl, hx, fun q hq => h1 φ1 _ (Ext.new hq) (rs1.new hq) _ (od_new qx.reverse hq)⟩
  · unfold RD at rx
    obtain ⟨a, ha, rfl⟩ := rx
    split at h1
    · rename_i ys hS
      obtain ⟨a', xs, q1, q2, q3⟩ := rs1.seqL (.inl hS)
      rw [ha] at q1; cases q1
      refine .inl ⟨a, xs, rfl, q2, fun q hq => ?_⟩
      obtain ⟨z1, z2, z3⟩ := od_newC rs1 q3.reverse hq
      exact h1 _ _ z2 z1 _ z3
    · rename_i ys hS
      obtain ⟨a', xs, q1, q2, q3⟩ := rs1.seqL (.inr hS)
      rw [ha] at q1; cases q1
      refine .inl ⟨a, xs, rfl, q2, fun q hq => ?_⟩
      obtain ⟨z1, z2, z3⟩ := od_newC rs1 q3.reverse hq
      exact h1 _ _ z2 z1 _ z3
    · exact h1.elim
  · exact h1.elim

/-! ### a, b = x, y -/
theorem LA.toS {m : MA} {ρ : Env} {S : Store} {σ : L2.St} {φ : List Addr} {H : Hp} {f : List D → Store → SRes} {D : Ends} {Q : List V → Hp → Prop} (re : RE X.K H φ ρ σ) (rs : RS X.K H φ S) (h : LKS X W φ H (ofE (m ρ S) ρ f) D)
    (q : ∀ d S1 φ1 H1 v, Ext X.K φ H φ1 H1 → RS X.K H1 φ1 S1 → RE X.K H1 φ1 ρ σ → RDs X.K H1 φ1 d v → LKS X W φ1 H1 (f d S1) D → Q v H1) : LA X W m σ H Q :=
  ⟨φ, ρ, S, re, rs, (LKS.ofE re h).mono fun d S1 φ1 H1 x z k v rd => q d S1 φ1 H1 v x z (re.mono x) rd k⟩
def sPar (i j : Nat) (ms : MA) : MS := fun ρ S => ofE (ms ρ S) ρ fun ds S1 => match ds with
  | [x, y] => .next ((ρ.set i (some x)).set j (some y)) S1
  | _ => .bad
theorem ss_par (i j : Nat) {x y : Str} {a b : Expr} {px py pt : Pos} {kt k2 pt2} (c : Ctx X W k) (ha : SA X W [a, b] ms) (hij : i ≠ j := by decide) (hi : X.N[i]? = some x := by rfl) (hj : X.N[j]? = some y := by rfl)
    (hx : X.env.scope.names.lookup x = some .local := by rfl) (hy : X.env.scope.names.lookup y = some .local := by rfl)
    (hw : swappedStores [.Tuple [.Name x px, .Name y py] kt pt] (.Tuple [a, b] k2 pt2) X.env = pure (some [x, y]) := by rfl)
    (hs : swapsWithSole [.Tuple [.Name x px, .Name y py] kt pt] (.Tuple [a, b] k2 pt2) pos.line X.env = pure false := by rfl) :
    SS X W (.Assign [.Tuple [.Name x px, .Name y py] kt pt] (.Tuple [a, b] k2 pt2) pos) (sPar i j ms) := by
  refine (ps_par c.calm c.nd hi hj hij hx hy ha hw hs).imp fun D σ H => ?_
  rintro ⟨φ, ρ, S, re, rs, h⟩
  refine LA.toS re rs h fun d S1 φ1 H1 v x1 rs1 re1 rd kk => ?_
  split at kk
  · obtain ⟨u, w, rfl, r1, r2⟩ := rd.two
    exact ⟨u, w, rfl, kk.nx ((re1.set i r1).set j r2) rs1⟩
  · exact kk.elim
def sPar3 (i j l : Nat) (ms : MA) : MS := fun ρ S => ofE (ms ρ S) ρ fun ds S1 => match ds with
  | [x, y, z] => .next (((ρ.set i (some x)).set j (some y)).set l (some z)) S1
  | _ => .bad
theorem RDs.three {K : PySem.W.Frag} {H : Hp} {φ : List Addr} {d e g : D} {vs : List V} (h : RDs K H φ [d, e, g] vs) : ∃ v u w, vs = [v, u, w] ∧ RD K H φ d v ∧ RD K H φ e u ∧ RD K H φ g w := by
  unfold RDs at h
  obtain ⟨v, r, rfl, h1, h2⟩ := h
  obtain ⟨u, w, rfl, h3, h4⟩ := h2.two
  exact ⟨v, u, w, rfl, h1, h3, h4⟩
theorem ss_par3 (i j l : Nat) {x y z : Str} {a b d : Expr} {px py pz pt : Pos} {kt k2 pt2} (c : Ctx X W k) (ha : SA X W [a, b, d] ms) (hij : i ≠ j := by decide) (hil : i ≠ l := by decide) (hjl : j ≠ l := by decide) (hi : X.N[i]? = some x := by rfl) (hj : X.N[j]? = some y := by rfl) (hl : X.N[l]? = some z := by rfl)
    (hx : X.env.scope.names.lookup x = some .local := by rfl) (hy : X.env.scope.names.lookup y = some .local := by rfl) (hz : X.env.scope.names.lookup z = some .local := by rfl)
    (hw : swappedStores [.Tuple [.Name x px, .Name y py, .Name z pz] kt pt] (.Tuple [a, b, d] k2 pt2) X.env = pure (some [x, y, z]) := by rfl)
    (hs : swapsWithSole [.Tuple [.Name x px, .Name y py, .Name z pz] kt pt] (.Tuple [a, b, d] k2 pt2) pos.line X.env = pure false := by rfl) :
    SS X W (.Assign [.Tuple [.Name x px, .Name y py, .Name z pz] kt pt] (.Tuple [a, b, d] k2 pt2) pos) (sPar3 i j l ms) := by
  refine (ps_par3 c.calm c.nd hi hj hl hij hil hjl hx hy hz ha hw hs).imp fun D σ H => ?_
  rintro ⟨φ, ρ, S, re, rs, h⟩
  refine LA.toS re rs h fun d S1 φ1 H1 v x1 rs1 re1 rd kk => ?_
  split at kk
  · obtain ⟨u, w, q, rfl, r1, r2, r3⟩ := rd.three
    exact ⟨u, w, q, rfl, kk.nx (((re1.set i r1).set j r2).set l r3) rs1⟩
  · exact kk.elim
end

/-! ### y = [..] on one line -/
section
variable {X : Cx} {W : WX} {k : Nat} {elt tg iter : Expr} {ifs : List Expr} {scope : Scope} {own : List (Str × Nat)} {pos spos : Pos} {mi : MI} {bnd : Bnd} {t : MT} {me : ME}
theorem comp_nm {i : Nat} {σ : L2.St} {H : Hp} {Q : VK} (h : LE X W (eComp mi (bNm i) [i] t me) σ H Q) : tLc (LI X W mi) (gName i) (LT X W0 t) (LE X W0 me) [i] σ H Q := by
  refine comp_go (Y := X) (t := t) (me := me) (bnd := bNm i) rfl (fun d x σ ρ ρ1 φ H Q re rd hb q => ?_) (fun _ _ _ h => h) (fun _ _ _ h => h) h
  cases hb
  refine q _ ?_ ((re.wipe [i]).set i rd)
  show ((σ.set i none).set i (some x)).set i none = σ.set i none
  rw [List.set_set, List.set_set]
theorem ss_setLc (j : Nat) {x y : Str} {i : Nat} {ti py : Pos} (c : Ctx X W k) (hi : SI X W (.Name x ti) iter mi) (ok : BlkOk X.N X.env.scope scope [(x, i)])
    (hg : ∀ s H C cl fp, PG (blkX X scope s H C cl fp) (.Name x ti) (gName i))
    (ht : ∀ s H C cl fp, PTs (blkX X scope s H C cl fp) ifs (LT (blkX X scope s H C cl fp) W0 t)) (he : ∀ s H C cl fp, SE (blkX X scope s H C cl fp) W0 elt me)
    (hk : X.env.scope.kind = .function := by rfl) (hj : X.N[j]? = some y := by rfl) (hyl : X.env.scope.names.lookup y = some .local := by rfl) (hl : (py.line == pos.line) = true := by rfl)
    (hh : (scope.names.any fun (n, k) => n == y && (k == .local || k == .cell)) = false := by rfl) (hs : ∀ x, foldedSetIterable iter X.env x = pure x := by intro _; rfl) :
    SS X W (.Assign [.Name y py] (.ListComp elt [⟨.Name x ti, iter, ifs, 0⟩] scope pos) spos) (sSet j (eComp mi (bNm i) [i] t me)) := by
  refine (ps_setLc (wi := LI X W mi) (g := gName i) (tt := LT X W0 t) (te := LE X W0 me) c.calm c.nd hj hyl (sw_true hk hyl hl hh) hi ok hg ht he hs).imp fun D σ H => ?_
  rintro ⟨φ, ρ, S, re, rs, h⟩
  exact comp_nm (LE.toS re rs h fun d S1 φ1 H1 v x1 rs1 re1 rd kk => kk.nx (re1.set j rd) rs1)
end
end RL

namespace RL
open PySem PySem.Spec PyProof.Rows L2

/-! ### over a tuple or a list -/
def iAnyM (me : ME) : MI := fun ρ S => (me ρ S).bind fun d S1 => match d with
  | .tup xs => .ok ⟨xs, fun _ => True⟩ S1
  | .ptr n => match S1[n]? with
    | some (.lst xs) => .ok ⟨xs, fun S => S[n]? = some (.lst xs)⟩ S1
    | some (.rol xs) => .ok ⟨xs, fun S => S[n]? = some (.rol xs)⟩ S1
    | _ => .bad
  | _ => .bad
section
variable {X : Cx} {W : WX} {k k' : Nat} {e : Expr} {es : List Expr} {pos p : Pos} {me : ME} {ms mk : MA}
theorem _root_.L2.PI.or {tg e : Expr} {t u : TI} (h : PI X tg e t) (g : PI X tg e u) : PI X tg e (fun σ H R => t σ H R ∨ u σ H R) := ⟨fun pins s σ H R I q => by
  rcases q with q | q
  · exact h.run pins s σ H R I q
  · exact g.run pins s σ H R I q⟩
theorem si_any {tg : Expr} (he : SE X W e me) : SI X W tg e (iAnyM me) := by
  refine ((si_tup he).or (si_lst he)).imp fun σ H R => ?_
  rintro ⟨φ, ρ, S, re, rs, h⟩
  cases hm : me ρ S with
  | bad => simp only [iAnyM, hm, Res.bind] at h; exact h.elim
  | exn x S1 => exact .inl ⟨φ, ρ, S, re, rs, by simp only [iAnyM, iTupM, hm, Res.bind] at h ⊢; exact h⟩
  | ok d S1 =>
    cases d with
    | tup xs => exact .inl ⟨φ, ρ, S, re, rs, by simp only [iAnyM, iTupM, hm, Res.bind] at h ⊢; exact h⟩
    | ptr n => exact .inr ⟨φ, ρ, S, re, rs, by simp only [iAnyM, iLstM, hm, Res.bind] at h ⊢; exact h⟩
    | non => simp only [iAnyM, hm, Res.bind] at h; exact h.elim
    | bl _ => simp only [iAnyM, hm, Res.bind] at h; exact h.elim
    | int _ => simp only [iAnyM, hm, Res.bind] at h; exact h.elim
    | str _ => simp only [iAnyM, hm, Res.bind] at h; exact h.elim
end

theorem pts_nilM {X : Cx} {W : WX} : PTs X [] (LT X W tYesM) := ⟨fun pins s σ H Q I h => pts_nil.run pins s σ H Q I (by
  obtain ⟨φ, ρ, S, re, rs, h⟩ := h
  exact h.ok rs)⟩
/-! ### a def that stands among the globals -/
structure Known (P : Program) (w : World) (K : PySem.W.Frag) (mg : Str → Option Value) (base : Heap) (k : Nat) (x : Str) (st : Stmt) (ps : List Str) (F : Fn) : Prop where
  ex : ∃ (f : Addr) (fd : FuncData), mg x = some (.ref f) ∧ Fun K x x st f fd ∧ Binds K fd ps [] ∧ FnG P w K mg base k f fd ps F
/-- a def's binding by position -/
def ByPos (x : Str) (st : Stmt) (ps : List Str) : Prop := ∀ (kV doc pm : Value) (an : Option Addr) (cdv ct : Value) (us : List Value), us.length = ps.length → bindArgs (PySem.W.fnOf x x (defArgs st) (defBody st) (defScope st) .none kV doc pm an cdv ct) ⟨us, []⟩ = pure (ps.zip us)
def ByKw (x : Str) (st : Stmt) (ps ks : List Str) (n : Nat) (is : List Nat) : Prop := ∀ (kV doc pm : Value) (an : Option Addr) (cdv ct : Value) (us ws : List Value), us.length = n → ws.length = ks.length →
  bindArgs (PySem.W.fnOf x x (defArgs st) (defBody st) (defScope st) .none kV doc pm an cdv ct) ⟨us, ks.zip ws⟩ = pure (ps.zip (pickL (us ++ ws) is))
section
variable {P : Program} {w : World} {K : PySem.W.Frag} {mg : Str → Option Value} {base : Heap} {k : Nat} {x : Str} {st : Stmt} {ps : List Str} {F : Fn}
theorem known {f : Addr} {fd : FuncData} (hm : mg x = some (.ref f)) (Fu : Fun K x x st f fd) (hb : ByPos x st ps) (G : FnG P w K mg base k f fd ps F) : Known P w K mg base k x st ps F := ⟨f, fd, hm, Fu, Fu.binds hb, G⟩
theorem Known.mono {j : Nat} (D : Known P w K mg base k x st ps F) (h : k ≤ j) : Known P w K mg base j x st ps F := by
  obtain ⟨f, fd, a, b, c, G⟩ := D.ex
  exact ⟨f, fd, a, b, c, G.mono h⟩
end
section
variable {X : Cx} {W : WX} {k k' : Nat} {e : Expr} {es : List Expr} {kws : List Keyword} {pos p : Pos} {me : ME} {ms mk : MA} {x : Str} {st : Stmt} {ps ks : List Str} {F : Fn}
theorem se_callD (c : Ctx X W k') (D : Known X.prog X.w X.K X.mg X.base k x st ps F) (hk : k ≤ k') (n : Nat) (hn : n = ps.length) (ha : SA X W (e :: es) ms) (hg : Gl X x := by rfl) (hdb : (x == ("__debug__" : Str)) = false := by decide)
    (he : starEach (e :: es) X.env = (false, eval e X.env) :: starEach es X.env := by rfl) (hpl : (backTo pos (starEach es X.env)).any (·.1) = false := by rfl) :
    SE X W (.Call (.Name x p) (e :: es) [] pos) (eFn1 n F ms) := by
  obtain ⟨f, fd, hm, Fu, hb, G⟩ := D.ex
  exact se_call c G hk hm Fu.kp hb n hn ha hg hdb he hpl
theorem se_callD0 (c : Ctx X W k') (D : Known X.prog X.w X.K X.mg X.base k x st [] F) (hk : k ≤ k') (hg : Gl X x := by rfl) (hdb : (x == ("__debug__" : Str)) = false := by decide) :
    SE X W (.Call (.Name x p) [] [] pos) (fun _ S => F [] S) := by
  obtain ⟨f, fd, hm, Fu, hb, G⟩ := D.ex
  exact se_call0 c G hk hm Fu.kp hb hg hdb
theorem bindsK_of {K : PySem.W.Frag} {f : Addr} {fd : FuncData} {n : Nat} {is : List Nat} (Fu : Fun K x x st f fd) (h : ByKw x st ps ks n is) : BindsK K fd ps ks n [] is := by
  obtain ⟨oc, od, kV, doc, pm, an, cdv, ct, osl, rfl, lk, hcd⟩ := Fu.ex
  intro s us ws _ h1 h2
  rw [List.append_nil]
  exact BindsTo.of_eq (h kV doc pm an cdv ct us ws h1 h2)
theorem se_callDK (c : Ctx X W k') (D : Known X.prog X.w X.K X.mg X.base k x st ps F) (hk : k ≤ k') (n m np : Nat) (is : List Nat) (hb : ByKw x st ps ks n is)
    (hmm : m = ks.length) (hnp : np = ps.length) (ha : SA X W (e :: es) ms) (hkw : SK X W kws mk) (hall : (backToKw pos (keywordEach kws X.env)).all (·.1.isSome) = true := by rfl) (hks : (backToKw pos (keywordEach kws X.env)).filterMap (·.1) = ks := by rfl) (hg : Gl X x := by rfl) (hdb : (x == ("__debug__" : Str)) = false := by decide)
    (he : starEach (e :: es) X.env = (false, eval e X.env) :: starEach es X.env := by rfl) (hpl : ((backTo pos (starEach (e :: es) X.env)).any (·.1) || (backToKw pos (keywordEach kws X.env)).any (·.1.isNone)) = false := by rfl) :
    SE X W (.Call (.Name x p) (e :: es) kws pos) (eFnK n m np is [] F ms mk) := by
  obtain ⟨f, fd, hm, Fu, _, G⟩ := D.ex
  exact se_callK c G hk hm Fu.kp (bindsK_of Fu hb) .nil .nil hmm hnp ha hkw hall hks hg hdb he hpl
theorem se_callDK0 (c : Ctx X W k') (D : Known X.prog X.w X.K X.mg X.base k x st ps F) (hk : k ≤ k') (m np : Nat) (is : List Nat) (hb : ByKw x st ps ks 0 is)
    (hmm : m = ks.length) (hnp : np = ps.length) (hkw : SK X W kws mk) (hall : (backToKw pos (keywordEach kws X.env)).all (·.1.isSome) = true := by rfl) (hks : (backToKw pos (keywordEach kws X.env)).filterMap (·.1) = ks := by rfl) (hg : Gl X x := by rfl) (hdb : (x == ("__debug__" : Str)) = false := by decide)
    (hpl : ((backTo pos (starEach [] X.env)).any (·.1) || (backToKw pos (keywordEach kws X.env)).any (·.1.isNone)) = false := by rfl) :
    SE X W (.Call (.Name x p) [] kws pos) (eFnK 0 m np is [] F aNil mk) := by
  obtain ⟨f, fd, hm, Fu, _, G⟩ := D.ex
  exact se_callK0 c G hk hm Fu.kp (bindsK_of Fu hb) .nil .nil hmm hnp hkw hall hks hg hdb hpl
/-! ### defs with defaults -/
def ByKwD (x : Str) (st : Stmt) (ps ks : List Str) (n : Nat) (is : List Nat) (l : Nat) : Prop := ∀ (T : Addr) (kV doc pm : Value) (an : Option Addr) (cdv ct : Value) (us ws its : List Value), us.length = n → ws.length = ks.length → its.length = l →
  ∃ k, bindArgs (PySem.W.fnOf x x (defArgs st) (defBody st) (defScope st) (.ref T) kV doc pm an cdv ct) ⟨us, ks.zip ws⟩ = seqItems? (.ref T) >>= k ∧ k (some its.toArray) = pure (ps.zip (pickL (us ++ ws ++ its) is))
structure KnownD (P : Program) (w : World) (K : PySem.W.Frag) (mg : Str → Option Value) (base : Heap) (k : Nat) (x : Str) (st : Stmt) (ps : List Str) (dd : List D) (F : Fn) : Prop where
  ex : ∃ (f : Addr) (fd : FuncData), mg x = some (.ref f) ∧ FunX K x x st f fd ∧ FnG P w K mg base k f fd ps F ∧ ∃ (dus : List Value) (dvs : List V), Vals dvs dus ∧ Paired flatD dd dvs ∧ ∀ ks n is, ByKwD x st ps ks n is dd.length → BindsK K fd ps ks n dus is
theorem knownD {P : Program} {w : World} {K : PySem.W.Frag} {mg : Str → Option Value} {base : Heap} {oc kV doc pm cdv ct : Value} {od an od2 : Option Addr} {osl osl2 : Array (Option Value)} {f T : Addr} {its : List Value} {nn : Nat} {dd : List D} {dvs : List V} (hm : mg x = some (.ref f))
    (lk : K.lookup f = some ⟨oc, od, .func (PySem.W.fnOf x x (defArgs st) (defBody st) (defScope st) (.ref T) kV doc pm an cdv ct), osl⟩) (hc : PySem.W.codeIn K cdv x = true) (kp : PySem.W.keepIn K (.ref f) = true)
    (lT : K.lookup T = some ⟨.type "tuple", od2, .seq its.toArray nn, osl2⟩) (hv : Vals dvs its) (hd : Paired flatD dd dvs) (hl : its.length = dd.length)
    (G : FnG P w K mg base k f (PySem.W.fnOf x x (defArgs st) (defBody st) (defScope st) (.ref T) kV doc pm an cdv ct) ps F) : KnownD P w K mg base k x st ps dd F := by
  refine ⟨f, _, hm, ⟨⟨oc, od, _, kV, doc, pm, an, cdv, ct, osl, rfl, lk, hc⟩, kp⟩, G, its, dvs, hv, hd, fun ks n is hb s us ws X h1 h2 => ?_⟩
  obtain ⟨q, e1, e2⟩ := hb T kV doc pm an cdv ct us ws its h1 h2 hl
  refine BindsTo.of_looks fun M => ?_
  rw [e1]
  exact looks_items X lT rfl (.of_pure e2)
theorem se_callDD {dd : List D} (c : Ctx X W k') (D : KnownD X.prog X.w X.K X.mg X.base k x st ps dd F) (hk : k ≤ k') (n m np : Nat) (is : List Nat) (hb : ByKwD x st ps ks n is dd.length)
    (hmm : m = ks.length) (hnp : np = ps.length) (ha : SA X W (e :: es) ms) (hkw : SK X W kws mk) (hall : (backToKw pos (keywordEach kws X.env)).all (·.1.isSome) = true := by rfl) (hks : (backToKw pos (keywordEach kws X.env)).filterMap (·.1) = ks := by rfl) (hg : Gl X x := by rfl) (hdb : (x == ("__debug__" : Str)) = false := by decide)
    (he : starEach (e :: es) X.env = (false, eval e X.env) :: starEach es X.env := by rfl) (hpl : ((backTo pos (starEach (e :: es) X.env)).any (·.1) || (backToKw pos (keywordEach kws X.env)).any (·.1.isNone)) = false := by rfl) :
    SE X W (.Call (.Name x p) (e :: es) kws pos) (eFnK n m np is dd F ms mk) := by
  obtain ⟨f, fd, hm, Fu, G, dus, dvs, hv, hd, hB⟩ := D.ex
  exact se_callK c G hk hm Fu.kp (hB _ _ _ hb) hv hd hmm hnp ha hkw hall hks hg hdb he hpl
theorem se_callDD0 {dd : List D} (c : Ctx X W k') (D : KnownD X.prog X.w X.K X.mg X.base k x st ps dd F) (hk : k ≤ k') (m np : Nat) (is : List Nat) (hb : ByKwD x st ps ks 0 is dd.length)
    (hmm : m = ks.length) (hnp : np = ps.length) (hkw : SK X W kws mk) (hall : (backToKw pos (keywordEach kws X.env)).all (·.1.isSome) = true := by rfl) (hks : (backToKw pos (keywordEach kws X.env)).filterMap (·.1) = ks := by rfl) (hg : Gl X x := by rfl) (hdb : (x == ("__debug__" : Str)) = false := by decide)
    (hpl : ((backTo pos (starEach [] X.env)).any (·.1) || (backToKw pos (keywordEach kws X.env)).any (·.1.isNone)) = false := by rfl) :
    SE X W (.Call (.Name x p) [] kws pos) (eFnK 0 m np is dd F aNil mk) := by
  obtain ⟨f, fd, hm, Fu, G, dus, dvs, hv, hd, hB⟩ := D.ex
  exact se_callK0 c G hk hm Fu.kp (hB _ _ _ hb) hv hd hmm hnp hkw hall hks hg hdb hpl
end
end RL

namespace RL
open PySem PySem.Spec PyProof.Rows L2

/-! ### what an abstract run gives -/
def Ok {α : Type} (r : Res α) (P : α → Store → Prop) : Prop := match r with
  | .ok a S => P a S
  | _ => False
structure Ps where
  nx : Env → Store → Prop
  rt : D → Store → Prop
  ct : Env → Store → Prop
  bk : Env → Store → Prop
def OkS (r : SRes) (p : Ps) : Prop := match r with
  | .next ρ S => p.nx ρ S
  | .ret d S => p.rt d S
  | .cont ρ S => p.ct ρ S
  | .brk ρ S => p.bk ρ S
  | _ => False
section
variable {α β : Type} {P : α → Store → Prop} {Q : β → Store → Prop} {S : Store} {ρ : Env} {p q : Ps}
theorem Ok_ok {a : α} : Ok (.ok a S) P = P a S := rfl
theorem Ok_bad : Ok (Res.bad : Res α) P = False := rfl
theorem Ok_bind {r : Res α} {f : α → Store → Res β} : Ok (r.bind f) Q = Ok r fun a S1 => Ok (f a S1) Q := by
  cases r <;> rfl
theorem Ok_if {c : Prop} [Decidable c] {r : Res α} : Ok (if c then r else .bad) P = (c ∧ Ok r P) := by
  by_cases h : c
  · rw [if_pos h]; simp [h]
  · rw [if_neg h]; simp [h, Ok_bad]
theorem Ok.mono {r : Res α} {P' : α → Store → Prop} (h : Ok r P) (i : ∀ a S, P a S → P' a S) : Ok r P' := by
  cases r with
  | ok a S => exact i a S h
  | exn x S => exact h
  | bad => exact h
theorem Ok.eq {r : Res α} (h : Ok r P) : ∃ a S', r = .ok a S' ∧ P a S' := by
  cases r with
  | ok a S => exact ⟨a, S, rfl, h⟩
  | exn x S => exact h.elim
  | bad => exact h.elim
theorem OkS.mono {r : SRes} (h : OkS r p) (h1 : ∀ ρ S, p.nx ρ S → q.nx ρ S) (h2 : ∀ d S, p.rt d S → q.rt d S) (h3 : ∀ ρ S, p.ct ρ S → q.ct ρ S) (h4 : ∀ ρ S, p.bk ρ S → q.bk ρ S) : OkS r q := by
  cases r with
  | next ρ S => exact h1 _ _ h
  | ret d S => exact h2 _ _ h
  | cont ρ S => exact h3 _ _ h
  | brk ρ S => exact h4 _ _ h
  | exn x ρ S => exact h
  | bad => exact h
theorem Ok_eC {d : D} {P : D → Store → Prop} : Ok (eC d ρ S) P = P d S := rfl
/-- tests and statements -/
theorem Ok_tOf {m : ME} {P : Bool → Store → Prop} : Ok (tOf m ρ S) P = Ok (m ρ S) fun d S1 => ∃ b, d = .bl b ∧ P b S1 := by
  unfold tOf
  rw [Ok_bind]
  congr 1
  funext d S1
  cases d <;> simp [Ok_ok, Ok_bad]
theorem Ok_tNot {m : MT} {P : Bool → Store → Prop} : Ok (tNotM m ρ S) P = Ok (m ρ S) fun b S1 => P (!b) S1 := by
  unfold tNotM; rw [Ok_bind]; rfl
theorem Ok_tAnd {m n : MT} {P : Bool → Store → Prop} : Ok (tAndM m n ρ S) P = Ok (m ρ S) fun b S1 => if b = true then Ok (n ρ S1) P else P false S1 := by
  unfold tAndM; rw [Ok_bind]; congr 1; funext b S1; cases b <;> rfl
theorem Ok_tOr {m n : MT} {P : Bool → Store → Prop} : Ok (tOrM m n ρ S) P = Ok (m ρ S) fun b S1 => if b = true then P true S1 else Ok (n ρ S1) P := by
  unfold tOrM; rw [Ok_bind]; congr 1; funext b S1; cases b <;> rfl
theorem Ok_tTru {m : ME} {P : Bool → Store → Prop} : Ok (tTru m ρ S) P = Ok (m ρ S) fun d S1 => ∃ b, truD S1 d = some b ∧ P b S1 := by
  unfold tTru
  rw [Ok_bind]
  congr 1
  funext d S1
  cases truD S1 d <;> simp [Ok_ok, Ok_bad]
theorem Ok_eIf {t : MT} {a b : ME} {P : D → Store → Prop} : Ok (eIf t a b ρ S) P = Ok (t ρ S) fun c S1 => if c = true then Ok (a ρ S1) P else Ok (b ρ S1) P := by
  unfold eIf; rw [Ok_bind]; congr 1; funext c S1; cases c <;> rfl
theorem Ok_andV {a b : ME} {P : D → Store → Prop} : Ok (eAndV a b ρ S) P = Ok (a ρ S) fun d S1 => ∃ c, d = .bl c ∧ if c = true then Ok (b ρ S1) P else P (.bl false) S1 := by
  unfold eAndV
  rw [Ok_bind]
  congr 1
  funext d S1
  cases d with
  | bl c => cases c <;> simp [Ok_ok]
  | _ => simp [Ok_bad]
theorem Ok_orV {a b : ME} {P : D → Store → Prop} : Ok (eOrV a b ρ S) P = Ok (a ρ S) fun d S1 => ∃ c, d = .bl c ∧ if c = true then P (.bl true) S1 else Ok (b ρ S1) P := by
  unfold eOrV
  rw [Ok_bind]
  congr 1
  funext d S1
  cases d with
  | bl c => cases c <;> simp [Ok_ok]
  | _ => simp [Ok_bad]
theorem Ok_chain {f g : D → D → Store → Res D} {a b c : ME} {P : D → Store → Prop} : Ok (eChain f g a b c ρ S) P = Ok (a ρ S) fun x S1 => Ok (b ρ S1) fun y S2 => Ok (f x y S2) fun z S3 => ∃ q, z = .bl q ∧ if q = true then Ok (c ρ S3) fun w S4 => Ok (g y w S4) P else P (.bl false) S3 := by
  unfold eChain
  rw [Ok_bind]; congr 1; funext x S1
  rw [Ok_bind]; congr 1; funext y S2
  rw [Ok_bind]; congr 1; funext z S3
  cases z with
  | bl q => cases q <;> simp [Ok_ok, Ok_bind]
  | _ => simp [Ok_bad]
theorem Ok_addI {i j : Int} {P : D → Store → Prop} : Ok (oAdd (.int i) (.int j) S) P = P (.int (i + j)) S := rfl
theorem Ok_subI {i j : Int} {P : D → Store → Prop} : Ok (oSub (.int i) (.int j) S) P = P (.int (i - j)) S := rfl
theorem Ok_mulI {i j : Int} {P : D → Store → Prop} : Ok (oMul (.int i) (.int j) S) P = ((Builtin.Int.intBits i : Int) + (Builtin.Int.intBits j : Int) ≤ 134217728 ∧ P (.int (i * j)) S) := by
  unfold oMul; exact Ok_if
theorem Ok_modI {i j : Int} {P : D → Store → Prop} : Ok (oMod (.int i) (.int j) S) P = (0 < j ∧ P (.int (i % j)) S) := Ok_if
theorem Ok_divI {i j : Int} {P : D → Store → Prop} : Ok (oDiv (.int i) (.int j) S) P = ((0 < j ∧ j.natAbs.log2 < 9000) ∧ P (.int (i / j)) S) := Ok_if
theorem Ok_powI {i j : Int} {P : D → Store → Prop} : Ok (oPow (.int i) (.int j) S) P = ((0 ≤ j ∧ j ≤ 1000000 ∧ i.natAbs < 2 ^ 64) ∧ P (.int (i ^ j.toNat)) S) := Ok_if
theorem Ok_ltI {i j : Int} {P : D → Store → Prop} : Ok (oLt (.int i) (.int j) S) P = P (.bl (decide (i < j))) S := rfl
theorem Ok_leI {i j : Int} {P : D → Store → Prop} : Ok (oLe (.int i) (.int j) S) P = P (.bl (decide (i ≤ j))) S := rfl
theorem Ok_gtI {i j : Int} {P : D → Store → Prop} : Ok (oGt (.int i) (.int j) S) P = P (.bl (decide (j < i))) S := rfl
theorem Ok_geI {i j : Int} {P : D → Store → Prop} : Ok (oGe (.int i) (.int j) S) P = P (.bl (decide (j ≤ i))) S := rfl
theorem Ok_addT {xs ys : List D} {P : D → Store → Prop} : Ok (oAdd (.tup xs) (.tup ys) S) P = (xs.length + ys.length ≤ sizeLine ∧ P (.tup (xs ++ ys)) S) := Ok_if
theorem Ok_addL {n m : Nat} {xs ys : List D} {P : D → Store → Prop} (h1 : S[n]? = some (.lst xs)) (h2 : S[m]? = some (.lst ys)) : Ok (oAdd (.ptr n) (.ptr m) S) P = (xs.length + ys.length ≤ sizeLine ∧ P (.ptr S.length) (S ++ [.lst (xs ++ ys)])) := by
  unfold oAdd; simp only [h1, h2]; exact Ok_if
theorem Ok_mulL {n : Nat} {k : Int} {xs : List D} {P : D → Store → Prop} (h1 : S[n]? = some (.lst xs)) : Ok (oMul (.ptr n) (.int k) S) P = ((-(2 ^ 63) ≤ k ∧ k < 2 ^ 63 ∧ xs.length * k.toNat ≤ sizeLine) ∧ P (.ptr S.length) (S ++ [.lst (List.replicate k.toNat xs).flatten])) := by
  unfold oMul; simp only [h1]; exact Ok_if
theorem Ok_intI {i : Int} {P : D → Store → Prop} : Ok (fInt [.int i] S) P = P (.int i) S := rfl
theorem Ok_intB {b : Bool} {P : D → Store → Prop} : Ok (fInt [.bl b] S) P = P (.int (if b then 1 else 0)) S := rfl
theorem Ok_boolI {i : Int} {P : D → Store → Prop} : Ok (fBool [.int i] S) P = P (.bl (i != 0)) S := rfl
theorem Ok_abs {i : Int} {P : D → Store → Prop} : Ok (fAbs [.int i] S) P = P (.int (if i < 0 then -i else i)) S := rfl
theorem Ok_lenT {xs : List D} {P : D → Store → Prop} : Ok (fLen [.tup xs] S) P = P (.int xs.length) S := rfl
theorem Ok_lenL {n : Nat} {xs : List D} {P : D → Store → Prop} (h : S[n]? = some (.lst xs) ∨ S[n]? = some (.rol xs)) : Ok (fLen [.ptr n] S) P = P (.int xs.length) S := by
  unfold fLen
  rcases h with h | h <;> (simp only [h]; rfl)
theorem Ok_tupleT {xs : List D} {P : D → Store → Prop} : Ok (fTuple [.tup xs] S) P = P (.tup xs) S := rfl
theorem Ok_tupleL {n : Nat} {xs : List D} {P : D → Store → Prop} (h : S[n]? = some (.lst xs) ∨ S[n]? = some (.rol xs)) : Ok (fTuple [.ptr n] S) P = P (.tup xs) S := by
  unfold fTuple
  rcases h with h | h <;> (simp only [h]; rfl)
theorem Ok_listT {xs : List D} {P : D → Store → Prop} : Ok (fList [.tup xs] S) P = P (.ptr S.length) (S ++ [.lst xs]) := rfl
theorem Ok_ixL {n : Nat} {i : Int} {xs : List D} {P : D → Store → Prop} (h : S[n]? = some (.lst xs) ∨ S[n]? = some (.rol xs)) : Ok (oIx (.ptr n) (.int i) S) P = ∃ d, atD xs i = some d ∧ P d S := by
  unfold oIx
  rcases h with h | h <;> (simp only [h]; cases atD xs i <;> simp [Ok_ok, Ok_bad])
theorem Ok_ixT {i : Int} {xs : List D} {P : D → Store → Prop} : Ok (oIx (.tup xs) (.int i) S) P = ∃ d, atD xs i = some d ∧ P d S := by
  unfold oIx
  simp only
  cases atD xs i <;> simp [Ok_ok, Ok_bad]
theorem Ok_slT {xs : List D} {lo hi : Option Int} {P : D → Store → Prop} : Ok (oSl (.tup xs) lo hi S) P = P (.tup (cutD xs lo hi)) S := rfl
theorem Ok_slL {n : Nat} {xs : List D} {lo hi : Option Int} {P : D → Store → Prop} (h : S[n]? = some (.lst xs) ∨ S[n]? = some (.rol xs)) : Ok (oSl (.ptr n) lo hi S) P = P (.ptr S.length) (S ++ [.lst (cutD xs lo hi)]) := by
  unfold oSl
  rcases h with h | h <;> (simp only [h]; rfl)
theorem Ok_revT {xs : List D} {P : D → Store → Prop} : Ok (oRev (.tup xs) S) P = P (.tup xs.reverse) S := rfl
theorem Ok_dict0 {P : D → Store → Prop} : Ok (eDict0 ρ S) P = P (.ptr S.length) (S ++ [.dct []]) := rfl
theorem Ok_dict1C {k : L2.Key} {d : D} {P : D → Store → Prop} : Ok (eDict1 k (eC d) ρ S) P = P (.ptr S.length) (S ++ [.dct [(k, d)]]) := by
  unfold eDict1
  rw [Ok_bind, Ok_eC, List.getElem?_append_right (Nat.le_refl _), Nat.sub_self]
  show P (.ptr S.length) ((S ++ [Cell.dct []]).set S.length (.dct [(k, d)])) = _
  rw [List.set_append_right _ _ (Nat.le_refl _), Nat.sub_self]
  rfl
theorem oEq_of {x y : D} {d e : PyData} (h1 : deep S deepLine x = some d) (h2 : deep S deepLine y = some e) (h3 : SeqAt.shaped d = true) (h4 : SeqAt.shaped e = true) : oEq x y S = .ok (.bl (PyData.eqv d e)) S := by
  unfold oEq
  split
  · cases h1; cases h2; rfl
  · unfold oEqD
    rw [h1, h2]
    simp only
    rw [if_pos ⟨h3, h4⟩]
theorem oNe_of {x y : D} {d e : PyData} (h1 : deep S deepLine x = some d) (h2 : deep S deepLine y = some e) (h3 : SeqAt.shaped d = true) (h4 : SeqAt.shaped e = true) : oNe x y S = .ok (.bl (!PyData.eqv d e)) S := by
  unfold oNe
  split
  · cases h1; cases h2; rfl
  · unfold oNeD
    rw [h1, h2]
    simp only
    rw [if_pos ⟨h3, h4⟩]
theorem Ok_eqD {x y : D} {P : D → Store → Prop} {d e : PyData} (h1 : deep S deepLine x = some d) (h2 : deep S deepLine y = some e) (h3 : SeqAt.shaped d = true) (h4 : SeqAt.shaped e = true) (h : P (.bl (PyData.eqv d e)) S) : Ok (oEq x y S) P := by
  rw [oEq_of h1 h2 h3 h4]; exact h
theorem Ok_neD {x y : D} {P : D → Store → Prop} {d e : PyData} (h1 : deep S deepLine x = some d) (h2 : deep S deepLine y = some e) (h3 : SeqAt.shaped d = true) (h4 : SeqAt.shaped e = true) (h : P (.bl (!PyData.eqv d e)) S) : Ok (oNe x y S) P := by
  rw [oNe_of h1 h2 h3 h4]; exact h
theorem Ok_neS {x y : Str} {P : D → Store → Prop} : Ok (oNe (.str x) (.str y) S) P = P (.bl (!(x == y))) S := rfl
theorem Ok_eqS {x y : Str} {P : D → Store → Prop} : Ok (oEq (.str x) (.str y) S) P = P (.bl (x == y)) S := rfl
theorem Ok_iAny {m : ME} {P : ItD → Store → Prop} : Ok (iAnyM m ρ S) P = Ok (m ρ S) fun d S1 => ∃ it, (match d with
  | .tup xs => it = ⟨xs, fun _ => True⟩
  | .ptr n => ∃ xs, (S1[n]? = some (.lst xs) ∧ it = ⟨xs, fun S => S[n]? = some (.lst xs)⟩) ∨ (S1[n]? = some (.rol xs) ∧ it = ⟨xs, fun S => S[n]? = some (.rol xs)⟩)
  | _ => False) ∧ P it S1 := by
  unfold iAnyM
  rw [Ok_bind]
  congr 1
  funext d S1
  cases d with
  | tup xs => simp [Ok_ok]
  | ptr n =>
    simp only
    cases h : S1[n]? with
    | none => simp [Ok_bad]
    | some c =>
      cases c with
      | lst xs => simp only [Ok_ok]; simp
      | rol xs => simp only [Ok_ok]; simp
      | dct xs => simp [Ok_bad]
      | dcx xs => simp [Ok_bad]
      | rox xs => simp [Ok_bad]
  | _ => simp [Ok_bad]
theorem Ok_rngM1 {ms : MA} {P : ItD → Store → Prop} : Ok (iRngM1 ms ρ S) P = Ok (ms ρ S) fun xs S1 => ∃ j, xs = [.int j] ∧ (-(2 ^ 62) ≤ j ∧ j < 2 ^ 62) ∧ P ⟨rangeD 0 j.toNat, fun _ => True⟩ S1 := by
  unfold iRngM1
  rw [Ok_bind]
  congr 1
  funext xs S1
  split
  · rw [Ok_if]; simp [Ok_ok]
  · rename_i h
    simp only [Ok_bad]
    refine propext ⟨fun z => z.elim, ?_⟩
    rintro ⟨j, rfl, _⟩
    exact h j rfl
theorem Ok_rngM2 {ms : MA} {P : ItD → Store → Prop} : Ok (iRngM2 ms ρ S) P = Ok (ms ρ S) fun xs S1 => ∃ i j, xs = [.int i, .int j] ∧ ((-(2 ^ 62) ≤ i ∧ i < 2 ^ 62) ∧ (-(2 ^ 62) ≤ j ∧ j < 2 ^ 62)) ∧ P ⟨rangeD i (j - i).toNat, fun _ => True⟩ S1 := by
  unfold iRngM2
  rw [Ok_bind]
  congr 1
  funext xs S1
  split
  · rw [Ok_if]
    refine propext ⟨fun z => ⟨_, _, rfl, z.1, z.2⟩, ?_⟩
    rintro ⟨i, j, e, z⟩
    cases e
    exact z
  · rename_i h
    simp only [Ok_bad]
    refine propext ⟨fun z => z.elim, ?_⟩
    rintro ⟨i, j, rfl, _⟩
    exact h i j rfl
theorem OkS_asgSub {me mo mi : ME} : OkS (sAsg me (gSubM mo mi) ρ S) p = Ok (me ρ S) fun d S1 => Ok (mo ρ S1) fun o S2 => Ok (mi ρ S2) fun i S3 => ∃ S4, putL o i d S3 = some S4 ∧ p.nx ρ S4 := by
  unfold sAsg gSubM
  have e : ∀ {α : Type} {r : Res α} {ρ : Env} {f : α → Store → SRes} {p : Ps}, OkS (ofE r ρ f) p = Ok r fun a S1 => OkS (f a S1) p := by
    intro α r ρ f p
    cases r <;> rfl
  have e2 : ∀ {r : SRes} {p : Ps}, OkS (nxOnly r) p = OkS r ⟨p.nx, fun _ _ => False, fun _ _ => False, fun _ _ => False⟩ := by
    intro r p
    cases r <;> rfl
  rw [e]; congr 1; funext d S1
  rw [e2, e]; congr 1; funext o S2
  rw [e]; congr 1; funext i S3
  cases putL o i d S3 <;> simp [OkS]
theorem OkS_ofE {r : Res α} {f : α → Store → SRes} : OkS (ofE r ρ f) p = Ok r fun a S1 => OkS (f a S1) p := by
  cases r <;> rfl
theorem OkS_seq {m n : MS} : OkS (sSeq m n ρ S) p = OkS (m ρ S) { p with nx := fun ρ1 S1 => OkS (n ρ1 S1) p } := by
  unfold sSeq
  cases m ρ S <;> rfl
theorem OkS_pass : OkS (sPass ρ S) p = p.nx ρ S := rfl
theorem OkS_cont : OkS (sCont ρ S) p = p.ct ρ S := rfl
theorem OkS_brk : OkS (sBrk ρ S) p = p.bk ρ S := rfl
theorem OkS_retN : OkS (sRetN ρ S) p = p.rt .non S := rfl
theorem OkS_ret {m : ME} : OkS (sRet m ρ S) p = Ok (m ρ S) p.rt := by
  unfold sRet; rw [OkS_ofE]; rfl
theorem OkS_drop {m : ME} : OkS (sDrop m ρ S) p = Ok (m ρ S) fun _ S1 => p.nx ρ S1 := by
  unfold sDrop; rw [OkS_ofE]; rfl
theorem OkS_set {i : Nat} {m : ME} : OkS (sSet i m ρ S) p = Ok (m ρ S) fun d S1 => p.nx (ρ.set i (some d)) S1 := by
  unfold sSet; rw [OkS_ofE]; rfl
theorem OkS_par {i j : Nat} {m : MA} : OkS (sPar i j m ρ S) p = Ok (m ρ S) fun ds S1 => ∃ x y, ds = [x, y] ∧ p.nx ((ρ.set i (some x)).set j (some y)) S1 := by
  unfold sPar; rw [OkS_ofE]
  congr 1
  funext ds S1
  match ds with
  | [] => simp [OkS]
  | [_] => simp [OkS]
  | [x, y] =>
    simp only [OkS]
    refine propext ⟨fun h => ⟨x, y, rfl, h⟩, ?_⟩
    rintro ⟨a, b, e, h⟩
    cases e
    exact h
  | _ :: _ :: _ :: _ => simp [OkS]
theorem OkS_if {t : MT} {m n : MS} : OkS (sIf t m n ρ S) p = Ok (t ρ S) fun c S1 => if c = true then OkS (m ρ S1) p else OkS (n ρ S1) p := by
  unfold sIf; rw [OkS_ofE]; congr 1; funext c S1; cases c <;> rfl
theorem Ok_body {n : Nat} {b : MS} {ds : List D} {P : D → Store → Prop} : Ok (mBody n b ds S) P = OkS (b (ds.map some ++ List.replicate (n - ds.length) none) S) ⟨fun _ S' => P .non S', P, fun _ _ => False, fun _ _ => False⟩ := by
  unfold mBody
  cases b (ds.map some ++ List.replicate (n - ds.length) none) S <;> rfl
theorem Ok_nil {P : List D → Store → Prop} : Ok (aNil ρ S) P = P [] S := rfl
theorem Ok_cons {m : ME} {ms : MA} {P : List D → Store → Prop} : Ok (aCons m ms ρ S) P = Ok (m ρ S) fun x S1 => Ok (ms ρ S1) fun xs S2 => P (x :: xs) S2 := by
  unfold aCons; rw [Ok_bind]; congr 1; funext x S1; rw [Ok_bind]; rfl
theorem Ok_bin {f : D → D → Store → Res D} {a b : ME} {P : D → Store → Prop} : Ok (eBin f a b ρ S) P = Ok (a ρ S) fun x S1 => Ok (b ρ S1) fun y S2 => Ok (f x y S2) P := by
  unfold eBin; rw [Ok_bind]; congr 1; funext x S1; rw [Ok_bind]
theorem Ok_var {i : Nat} {P : D → Store → Prop} : Ok (eVar i ρ S) P = ∃ d, ρ[i]? = some (some d) ∧ P d S := by
  unfold eVar
  cases h : ρ[i]? with
  | none => simp [Ok_bad]
  | some o =>
    cases o with
    | none => simp [Ok_bad]
    | some d => simp [Ok_ok]
theorem Ok_call {f : Fn} {ms : MA} {P : D → Store → Prop} : Ok (eCall f ms ρ S) P = Ok (ms ρ S) fun xs S1 => Ok (f xs S1) P := by
  unfold eCall; rw [Ok_bind]
theorem Ok_fn1 {n : Nat} {F : Fn} {ms : MA} {P : D → Store → Prop} : Ok (eFn1 n F ms ρ S) P = Ok (ms ρ S) fun xs S1 => xs.length = n ∧ Ok (F xs S1) P := by
  unfold eFn1; rw [Ok_bind]; congr 1; funext xs S1; rw [Ok_if]
theorem Ok_fnK {n m np : Nat} {is : List Nat} {dd : List D} {F : Fn} {ms mk : MA} {P : D → Store → Prop} : Ok (eFnK n m np is dd F ms mk ρ S) P =
    Ok (ms ρ S) fun xs S1 => Ok (mk ρ S1) fun ys S2 => (xs.length = n ∧ ys.length = m ∧ (pickL (xs ++ ys ++ dd) is).length = np) ∧ Ok (F (pickL (xs ++ ys ++ dd) is) S2) P := by
  unfold eFnK; rw [Ok_bind]; congr 1; funext xs S1; rw [Ok_bind]; congr 1; funext ys S2; rw [Ok_if]
theorem Ok_tup {ms : MA} {P : D → Store → Prop} : Ok (eTup ms ρ S) P = Ok (ms ρ S) fun xs S1 => xs.length ≤ sizeLine ∧ P (.tup xs) S1 := by
  unfold eTup; rw [Ok_bind]; congr 1; funext xs S1; rw [Ok_if]; rfl
theorem Ok_lst {ms : MA} {P : D → Store → Prop} : Ok (eLst ms ρ S) P = Ok (ms ρ S) fun xs S1 => xs.length ≤ sizeLine ∧ P (.ptr S1.length) (S1 ++ [.lst xs]) := by
  unfold eLst; rw [Ok_bind]; congr 1; funext xs S1; rw [Ok_if]; rfl
theorem Ok_isi {T : String} {m : ME} {P : D → Store → Prop} : Ok (eIsi T m ρ S) P = Ok (m ρ S) fun x S1 => ∃ k, kindD S1 x = some k ∧ P (.bl (isiB k T)) S1 := by
  unfold eIsi; rw [Ok_bind]; congr 1; funext x S1
  cases kindD S1 x <;> simp [Ok_ok, Ok_bad]
theorem Ok_sl {m : ME} {lo hi : MO} {P : D → Store → Prop} : Ok (eSl m lo hi ρ S) P = Ok (m ρ S) fun x S1 => Ok (lo ρ S1) fun l S2 => Ok (hi ρ S2) fun u S3 => Ok (oSl x l u S3) P := by
  unfold eSl; simp only [Ok_bind]
theorem Ok_pNone {P : Option Int → Store → Prop} : Ok (pNone ρ S) P = P none S := rfl
theorem Ok_pSome {m : ME} {P : Option Int → Store → Prop} : Ok (pSome m ρ S) P = Ok (m ρ S) fun d S1 => ∃ i, d = .int i ∧ P (some i) S1 := by
  unfold pSome
  rw [Ok_bind]
  congr 1
  funext d S1
  cases d <;> simp [Ok_ok, Ok_bad]
theorem Ok_neg {m : ME} {P : D → Store → Prop} : Ok (eNeg m ρ S) P = Ok (m ρ S) fun d S1 => ∃ i, d = .int i ∧ P (.int (-i)) S1 := by
  unfold eNeg
  rw [Ok_bind]
  congr 1
  funext d S1
  cases d <;> simp [Ok_ok, Ok_bad]
theorem Ok_notV {m : ME} {P : D → Store → Prop} : Ok (eNotV m ρ S) P = Ok (m ρ S) fun d S1 => ∃ b, d = .bl b ∧ P (.bl (!b)) S1 := by
  unfold eNotV
  rw [Ok_bind]
  congr 1
  funext d S1
  cases d <;> simp [Ok_ok, Ok_bad]
theorem Ok_rev {m : ME} {P : D → Store → Prop} : Ok (eRev m ρ S) P = Ok (m ρ S) fun d S1 => Ok (oRev d S1) P := by
  unfold eRev; rw [Ok_bind]
theorem Ok_rg1 {f : Int → Int → Store → Res D} {m : ME} {P : D → Store → Prop} : Ok (eRg1 f m ρ S) P = Ok (m ρ S) fun d S1 => ∃ i, d = .int i ∧ Ok (f 0 i S1) P := by
  unfold eRg1
  rw [Ok_bind]
  congr 1
  funext d S1
  cases d <;> simp [Ok_ok, Ok_bad]
open Classical in
theorem OkS_for {mi : MI} {g : MG} {body : MS} : OkS (sFor mi g body ρ S) p = Ok (mi ρ S) fun it S1 => it.chk S1 ∧ OkS (forM it.chk g body it.items ρ S1) p := by
  unfold sFor; rw [OkS_ofE]; congr 1; funext it S1
  by_cases h : it.chk S1
  · rw [if_pos h]; simp [h]
  · rw [if_neg h]; simp [h, OkS]
open Classical in
theorem forM_inv {chk : Store → Prop} {i : Nat} {body : MS} (I : List D → Env → Store → Prop) (step : ∀ x xs ρ S, I (x :: xs) ρ S → OkS (body (ρ.set i (some x)) S) ⟨fun ρ S => chk S ∧ I xs ρ S, p.rt, fun ρ S => chk S ∧ I xs ρ S, p.nx⟩)
    (fin : ∀ ρ S, I [] ρ S → p.nx ρ S) : ∀ (xs : List D) (ρ : Env) (S : Store), I xs ρ S → OkS (forM chk (gNm i) body xs ρ S) p
  | [], ρ, S, h => fin ρ S h
  | x :: xs, ρ, S, h => by
    have st := step x xs ρ S h
    unfold forM
    show OkS (match body (ρ.set i (some x)) S with
      | .next ρ2 S2 => if chk S2 then forM chk (gNm i) body xs ρ2 S2 else .bad
      | .cont ρ2 S2 => if chk S2 then forM chk (gNm i) body xs ρ2 S2 else .bad
      | .brk ρ2 S2 => .next ρ2 S2
      | r => r) p
    cases hb : body (ρ.set i (some x)) S with
    | next ρ2 S2 =>
      rw [hb] at st
      simp only [if_pos st.1]
      exact forM_inv I step fin xs ρ2 S2 st.2
    | cont ρ2 S2 =>
      rw [hb] at st
      simp only [if_pos st.1]
      exact forM_inv I step fin xs ρ2 S2 st.2
    | brk ρ2 S2 => rw [hb] at st; exact st
    | ret d S2 => rw [hb] at st; exact st
    | exn a b c => rw [hb] at st; exact st
    | bad => rw [hb] at st; exact st
theorem Ok_noExn {r : Res α} (h : Ok r P) : Ok (noExn r) P := by
  cases r with
  | ok a S => exact h
  | exn x S => exact h.elim
  | bad => exact h
open Classical in
theorem Ok_comp {mi : MI} {bnd : Bnd} {vs : List Nat} {t : MT} {e : ME} {P : D → Store → Prop} : Ok (eComp mi bnd vs t e ρ S) P = Ok (mi ρ S) fun it S1 => it.chk (S1 ++ [.lst []]) ∧ Ok (compT it.chk bnd t e S1.length (wipeE ρ vs) it.items (S1 ++ [.lst []])) fun _ S2 => P (.ptr S1.length) S2 := by
  unfold eComp
  rw [Ok_bind]
  congr 1
  funext it S1
  by_cases h : it.chk (S1 ++ [.lst []])
  · rw [if_pos h, Ok_bind]; simp [h, Ok_ok]
  · rw [if_neg h]; simp [h, Ok_bad]
/-- a comprehension's turns: I of what was made, what is left, and the store -/
theorem compT_inv {chk : Store → Prop} {i : Nat} {t : MT} {e : ME} {n : Nat} {ρ : Env} {Q : Store → Prop} (I : List D → List D → Store → Prop) (at_ : ∀ acc xs S, I acc xs S → S[n]? = some (.lst acc))
    (step : ∀ acc x xs S, I acc (x :: xs) S → Ok (t (ρ.set i (some x)) S) fun b S2 => if b = true then Ok (e (ρ.set i (some x)) S2) fun y S3 => S3[n]? = some (.lst acc) ∧ acc.length < sizeLine ∧ chk (S3.set n (.lst (acc ++ [y]))) ∧ I (acc ++ [y]) xs (S3.set n (.lst (acc ++ [y]))) else chk S2 ∧ I acc xs S2)
    (fin : ∀ acc S, I acc [] S → Q S) : ∀ (acc xs : List D) (S : Store), I acc xs S → Ok (compT chk (bNm i) t e n ρ xs S) fun _ S' => Q S'
  | acc, [], S, h => fin acc S h
  | acc, x :: xs, S, h => by
    have st := step acc x xs S h
    unfold compT
    show Ok ((noExn (t (ρ.set i (some x)) S)).bind fun b S2 => _) _
    rw [Ok_bind]
    refine Ok_noExn (st.mono fun b S2 hb => ?_)
    cases b with
    | false =>
      simp only [Bool.false_eq_true, if_false] at hb ⊢
      rw [if_pos hb.1]
      exact compT_inv I at_ step fin acc xs S2 hb.2
    | true =>
      simp only [if_true] at hb ⊢
      rw [Ok_bind]
      refine Ok_noExn (hb.mono fun y S3 hy => ?_)
      obtain ⟨h1, h2, h3, h4⟩ := hy
      rw [h1]
      simp only
      rw [if_pos ⟨h2, h3⟩]
      exact compT_inv I at_ step fin (acc ++ [y]) xs _ h4
end
theorem ex2 {α β : Type} {a : α} {b : β} {P : α → β → Prop} : (∃ i j, (a = i ∧ b = j) ∧ P i j) = P a b := propext ⟨fun ⟨_, _, ⟨rfl, rfl⟩, h⟩ => h, fun h => ⟨_, _, ⟨rfl, rfl⟩, h⟩⟩
open Classical in
theorem Ok_lstRg {a b : Int} {S : Store} {P : D → Store → Prop} : Ok (fLstRg a b S) P = (RgOk a b ∧ P (.ptr S.length) (S ++ [.lst (rangeD a (b - a).toNat)])) := by
  unfold fLstRg; exact Ok_if
open Classical in
theorem Ok_tupRg {a b : Int} {S : Store} {P : D → Store → Prop} : Ok (fTupRg a b S) P = (RgOk a b ∧ P (.tup (rangeD a (b - a).toNat)) S) := by
  unfold fTupRg; exact Ok_if
theorem set_last (S : Store) (c d : Cell) : (S ++ [c]).set S.length d = S ++ [d] := by
  rw [List.set_append_right _ _ (Nat.le_refl _), Nat.sub_self]; rfl
theorem get_last (S : Store) (c : Cell) : (S ++ [c])[S.length]? = some c := by
  rw [List.getElem?_append_right (Nat.le_refl _), Nat.sub_self]; rfl
/-- turns that only look: what passes the test, by g -/
theorem compT_fm {chk : Store → Prop} {i : Nat} {t : MT} {e : ME} {ρ : Env} {S0 : Store} (tb : D → Bool) (g : D → D) (hc : ∀ acc, chk (S0 ++ [.lst acc])) : ∀ (xs acc : List D), acc.length + xs.length ≤ sizeLine →
    (∀ x ∈ xs, ∀ acc, Ok (t (ρ.set i (some x)) (S0 ++ [.lst acc])) fun b S2 => b = tb x ∧ S2 = S0 ++ [.lst acc]) →
    (∀ x ∈ xs, tb x = true → ∀ acc, Ok (e (ρ.set i (some x)) (S0 ++ [.lst acc])) fun y S3 => y = g x ∧ S3 = S0 ++ [.lst acc]) →
    Ok (compT chk (bNm i) t e S0.length ρ xs (S0 ++ [.lst acc])) fun _ S' => S' = S0 ++ [.lst (acc ++ (xs.filter tb).map g)]
  | [], acc, _, _, _ => by show S0 ++ [.lst acc] = S0 ++ [.lst (acc ++ [])]; rw [List.append_nil]
  | x :: xs, acc, hl, ht, he => by
    rw [List.length_cons] at hl
    unfold compT
    show Ok ((noExn (t (ρ.set i (some x)) (S0 ++ [.lst acc]))).bind fun b S2 => _) _
    rw [Ok_bind]
    refine Ok_noExn ((ht x List.mem_cons_self acc).mono fun b S2 hb => ?_)
    obtain ⟨rfl, rfl⟩ := hb
    cases hx : tb x with
    | false =>
      simp only [Bool.false_eq_true, if_false]
      rw [if_pos (hc acc), List.filter_cons_of_neg (by rw [hx]; decide)]
      exact compT_fm tb g hc xs acc (by omega) (fun y hy => ht y (List.mem_cons_of_mem _ hy)) fun y hy => he y (List.mem_cons_of_mem _ hy)
    | true =>
      simp only [if_true]
      rw [Ok_bind]
      refine Ok_noExn ((he x List.mem_cons_self hx acc).mono fun y S3 hy => ?_)
      obtain ⟨rfl, rfl⟩ := hy
      rw [get_last]
      simp only
      rw [set_last, if_pos ⟨by omega, hc _⟩, List.filter_cons_of_pos hx, List.map_cons]
      have := compT_fm tb g hc xs (acc ++ [g x]) (by rw [List.length_append, List.length_cons, List.length_nil]; omega) (fun y hy => ht y (List.mem_cons_of_mem _ hy)) fun y hy => he y (List.mem_cons_of_mem _ hy)
      rw [List.append_assoc] at this
      exact this
theorem lawTrue_of {n : Nat} {F : Fn} (h : ∀ ns : List Int, ns.length ≤ n → (∀ z ∈ ns, Builtin.Int.intBits z ≤ 1048576) → Ok (F [.ptr 0] [.rol (ns.map D.int)]) fun d _ => d = .bl true) : LawTrue n F := fun ns h1 h2 => by
  obtain ⟨a, S', e, rfl⟩ := (h ns h1 h2).eq
  exact ⟨S', e⟩

/-! ### stores that grow -/
/-- S' has all that S has, but perhaps at the places q -/
structure Gr (q : Nat → Prop) (S S' : Store) : Prop where
  len : S.length ≤ S'.length
  same : ∀ n, n < S.length → ¬ q n → S'[n]? = S[n]?
abbrev Gr0 := Gr fun _ => False
section
variable {q : Nat → Prop} {S S' S'' : Store} {n : Nat} {c : Cell}
theorem Gr.refl : Gr q S S := ⟨Nat.le_refl _, fun _ _ _ => rfl⟩
theorem Gr.trans (a : Gr q S S') (b : Gr q S' S'') : Gr q S S'' := ⟨Nat.le_trans a.len b.len, fun n h k => (b.same n (Nat.lt_of_lt_of_le h a.len) k).trans (a.same n h k)⟩
theorem Gr.app (T : Store) : Gr q S (S ++ T) := ⟨by rw [List.length_append]; omega, fun n h _ => List.getElem?_append_left h⟩
theorem Gr.weak {q' : Nat → Prop} (a : Gr q S S') (h : ∀ n, q n → q' n) : Gr q' S S' := ⟨a.len, fun n hn k => a.same n hn fun z => k (h n z)⟩
theorem Gr.weak0 {q' : Nat → Prop} (a : Gr0 S S') : Gr q' S S' := a.weak fun _ z => z.elim
theorem Gr.put (c : Cell) (hq : q n) : Gr q S (S.set n c) := ⟨by rw [List.length_set]; exact Nat.le_refl _, fun m hm k => by
  rw [List.getElem?_set_ne]; rintro rfl; exact k hq⟩
theorem Gr.putNew {S0 : Store} (a : Gr q S0 S) (hn : S0.length ≤ n) : Gr q S0 (S.set n c) := ⟨by rw [List.length_set]; exact a.len, fun m hm k => by
  rw [List.getElem?_set_ne (by omega)]; exact a.same m hm k⟩
theorem Gr.get (a : Gr q S S') (h : S[n]? = some c) (k : ¬ q n) : S'[n]? = some c := by
  rw [a.same n (List.getElem?_eq_some_iff.mp h).1 k]; exact h
theorem get_app (S : Store) (c : Cell) : (S ++ [c])[S.length]? = some c := by
  rw [List.getElem?_append_right (Nat.le_refl _), Nat.sub_self]; rfl
theorem lt_of_get (h : S[n]? = some c) : n < S.length := (List.getElem?_eq_some_iff.mp h).1
end

/-! ### lists of ints -/
theorem mapO_map {α β γ : Type} {f : β → Option γ} {g : α → β} {h : α → γ} : ∀ {l : List α}, (∀ x ∈ l, f (g x) = some (h x)) → mapO f (l.map g) = some (l.map h)
  | [], _ => rfl
  | x :: xs, e => by
    rw [List.map_cons]
    unfold mapO
    rw [e x List.mem_cons_self, mapO_map fun y hy => e y (List.mem_cons_of_mem _ hy)]
    rfl
theorem deep_intsO (S : Store) (k : Nat) (ns : List Int) : mapO (deep S (k + 1)) (ns.map D.int) = some (ns.map PyData.int) := mapO_map fun x _ => by unfold deep; rfl
theorem deep_intsT (S : Store) (k : Nat) (ns : List Int) : deep S (k + 2) (.tup (ns.map D.int)) = some (.tuple (ns.map PyData.int)) := by
  unfold deep; rw [deep_intsO]; rfl
theorem deep_intsL {S : Store} {n : Nat} (k : Nat) (ns : List Int) (h : S[n]? = some (.lst (ns.map D.int))) : deep S (k + 2) (.ptr n) = some (.list (ns.map PyData.int)) := by
  unfold deep; rw [h]; simp only; rw [deep_intsO]; rfl
theorem depth_ints : ∀ ns : List Int, PyData.depthAll (ns.map PyData.int) = 0
  | [] => rfl
  | n :: ns => by
    rw [List.map_cons]; unfold PyData.depthAll
    rw [depth_ints ns]; rfl
theorem canLay_ints : ∀ ns : List Int, PyData.canLayAll0 (ns.map PyData.int) = true
  | [] => rfl
  | n :: ns => by
    rw [List.map_cons]; unfold PyData.canLayAll0
    rw [canLay_ints ns]; rfl
theorem shaped_intsL (ns : List Int) : SeqAt.shaped (.list (ns.map PyData.int)) = true := by
  unfold SeqAt.shaped PyData.canLay0 PyData.depth
  rw [canLay_ints, depth_ints]; rfl
theorem shaped_intsT (ns : List Int) : SeqAt.shaped (.tuple (ns.map PyData.int)) = true := by
  unfold SeqAt.shaped PyData.canLay0 PyData.depth
  rw [canLay_ints, depth_ints]; rfl
theorem eqv_intsL : ∀ ns ms : List Int, PyData.eqvAll (ns.map PyData.int) (ms.map PyData.int) = decide (ns = ms)
  | [], [] => rfl
  | [], _ :: _ => rfl
  | _ :: _, [] => rfl
  | n :: ns, m :: ms => by
    rw [List.map_cons, List.map_cons]
    unfold PyData.eqvAll
    rw [eqv_intsL ns ms]
    unfold PyData.eqv
    by_cases h : n = m <;> by_cases h2 : ns = ms <;> simp [h, h2]
theorem mem_range {lo : Int} {n : Nat} {x : D} (h : x ∈ rangeD lo n) : ∃ i : Nat, i < n ∧ x = .int (lo + i) := by
  unfold rangeD at h
  obtain ⟨i, hi, rfl⟩ := List.mem_map.mp h
  exact ⟨i, List.mem_range.mp hi, rfl⟩
theorem atD_nat {xs : List D} {i : Nat} {d : D} (h : xs[i]? = some d) : atD xs (i : Int) = some d := by
  have hl := (List.getElem?_eq_some_iff.mp h).1
  unfold atD atI ixN
  rw [if_pos (by omega), if_pos (by omega)]
  show xs[((i : Nat) : Int).toNat]? = some d
  rw [Int.toNat_natCast]; exact h
theorem Ok.and {α : Type} {r : Res α} {P Q : α → Store → Prop} (h : Ok r P) (g : Ok r Q) : Ok r fun a S => P a S ∧ Q a S := by
  cases r with
  | ok a S => exact ⟨h, g⟩
  | exn x S => exact h.elim
  | bad => exact h.elim

/-! ### data that can be shown -/
structure Tame (p : PyData) : Prop where
  sh : p.showable = true
  lv : p.leavesShort 100 = true
  dp : p.depth ≤ 12
  wt : p.weight ≤ 50000
theorem Tame.len {p : PyData} (h : Tame p) : p.shown.length ≤ sizeLine := by
  have h1 := PyData.shown_le 100 (by decide) p h.lv
  have h2 := h.wt
  have e : sizeLine = 16777216 := by decide
  have : (100 + 2) * p.weight ≤ 102 * 50000 := Nat.mul_le_mul (by omega) h2
  omega
theorem Ok_repr {d : D} {S : Store} {p : PyData} {P : D → Store → Prop} (e : deep S deepLine d = some p) (t : Tame p) (h : P (.str p.shown) S) : Ok (fRepr [d] S) P := by
  show Ok (match deep S deepLine d with
      | some p => if p.showable = true ∧ p.shown.length ≤ sizeLine ∧ p.depth ≤ 60 then .ok (.str p.shown) S else .bad
      | none => .bad) P
  rw [e]
  simp only
  rw [if_pos ⟨t.sh, t.len, by have := t.dp; omega⟩]
  exact h
end RL

namespace RL
open PySem PySem.Spec PyProof.Rows L2

/-! ### in, not in -/
/-- a flat value as the rules have it -/
def toV : D → V
  | .non => .non
  | .bl b => .bl b
  | .int i => .int i
  | .str s => .str s
  | _ => .non
def flatB : D → Bool
  | .non | .bl _ | .int _ | .str _ => true
  | _ => false
theorem rd_toV {K : PySem.W.Frag} {H : Hp} {φ : List Addr} {d : D} {v : V} (r : RD K H φ d v) (h : flatB d = true) : v = toV d ∧ flatV v = true := by
  cases d with
  | tup _ => cases h
  | ptr _ => cases h
  | _ => unfold RD at r; subst r; exact ⟨rfl, rfl⟩
theorem rds_toV {K : PySem.W.Frag} {H : Hp} {φ : List Addr} : ∀ {ds : List D} {vs : List V}, RDs K H φ ds vs → ds.all flatB = true → vs = ds.map toV ∧ vs.all flatV = true
  | [], vs, r, _ => by unfold RDs at r; subst r; exact ⟨rfl, rfl⟩
  | d :: ds, vs, r, h => by
    unfold RDs at r
    obtain ⟨v, vs', rfl, r1, r2⟩ := r
    rw [List.all_cons, Bool.and_eq_true] at h
    obtain ⟨e1, f1⟩ := rd_toV r1 h.1
    obtain ⟨e2, f2⟩ := rds_toV r2 h.2
    exact ⟨by rw [e1, e2]; rfl, by rw [List.all_cons, f1, f2]; rfl⟩
def itemsD (S : Store) : D → Option (List D)
  | .tup xs => some xs
  | .ptr n => match S[n]? with
    | some (.lst xs) => some xs
    | some (.rol xs) => some xs
    | _ => none
  | _ => none
/-- flat x among flat items; or data of any depth in a list -/
def inD (x y : D) (S : Store) : Option Bool := match itemsD S y with
  | some ys => if flatB x = true ∧ ys.all flatB = true then some (inV (toV x) (ys.map toV)) else match y, deep S deepLine x, deep S deepLine y with
    | .ptr _, some d, some (.list ds) => if SeqAt.shaped d = true ∧ SeqAt.shaped (.list ds) = true then some (ds.any fun z => PyData.eqv z d) else none
    | _, _, _ => none
  | none => none
def oIn (x y : D) (S : Store) : Res D := match inD x y S with
  | some b => .ok (.bl b) S
  | none => .bad
def oNotIn (x y : D) (S : Store) : Res D := match inD x y S with
  | some b => .ok (.bl (!b)) S
  | none => .bad
section
variable {X : Cx} {W : WX}
theorem items_seq {K : PySem.W.Frag} {H : Hp} {φ : List Addr} {S : Store} {y : D} {vy : V} {ys : List D} (rs : RS K H φ S) (ry : RD K H φ y vy) (h : itemsD S y = some ys) : ∃ p xs, vy = .ref p ∧ (SqL K H p xs ∨ SqT K H p xs) ∧ RDs K H φ ys xs := by
  unfold itemsD at h
  split at h
  · cases h
    unfold RD at ry
    obtain ⟨a, xs, rfl, s, r⟩ := ry
    exact ⟨a, xs, rfl, .inr s, r⟩
  · unfold RD at ry
    obtain ⟨a, ha, rfl⟩ := ry
    split at h
    · rename_i hS; cases h
      obtain ⟨a', xs, q1, q2, q3⟩ := rs.seqL (.inl hS)
      rw [ha] at q1; cases q1
      exact ⟨a, xs, rfl, .inl q2, q3⟩
    · rename_i hS; cases h
      obtain ⟨a', xs, q1, q2, q3⟩ := rs.seqL (.inr hS)
      rw [ha] at q1; cases q1
      exact ⟨a, xs, rfl, .inl q2, q3⟩
    · cases h
  · cases h
def rInAll (K : PySem.W.Frag) : R2 := fun x y H Q => rIn K false x y H Q ∨ rInD K x y H Q
def rNotInAll (K : PySem.W.Frag) : R2 := fun x y H Q => rIn K true x y H Q ∨ rNotInD K x y H Q
theorem op_inA (hu : X.A.units + 65 < cLine) : OpR X (compareOp .In) (rInAll X.K) := OpR.or op_in_seq (op_inD hu)
theorem op_notInA (hu : X.A.units + 65 < cLine) : OpR X (compareOp .NotIn) (rNotInAll X.K) := OpR.or op_notIn_seq (op_notInD hu)
theorem inD_road {K : PySem.W.Frag} {H : Hp} {φ : List Addr} {S : Store} {x y : D} {vx vy : V} {b : Bool} (rs : RS K H φ S) (rx : RD K H φ x vx) (ry : RD K H φ y vy) (h : inD x y S = some b) :
    (∃ p xs, vy = .ref p ∧ (SqL K H p xs ∨ SqT K H p xs) ∧ flatV vx = true ∧ xs.all flatV = true ∧ inV vx xs = b) ∨ (∃ d ds, Dp K H vx d ∧ Dp K H vy (.list ds) ∧ SeqAt.shaped d = true ∧ SeqAt.shaped (.list ds) = true ∧ (ds.any fun z => PyData.eqv z d) = b) := by
  unfold inD at h
  split at h
  · rename_i ys hy
    obtain ⟨p, xs, rfl, sq, r⟩ := items_seq rs ry hy
    split at h
    · rename_i hf
      cases h
      obtain ⟨e1, f1⟩ := rd_toV rx hf.1
      obtain ⟨e2, f2⟩ := rds_toV r hf.2
      exact .inl ⟨p, xs, rfl, sq, f1, f2, by rw [e1, e2]⟩
    · split at h
      · rename_i d ds h1 h2
        split at h
        · rename_i hs
          cases h
          exact .inr ⟨d, ds, deep_dp rs _ _ _ _ rx h1 (SeqAt.canLay_of_shaped hs.1), deep_dp rs _ _ _ _ ry h2 (SeqAt.canLay_of_shaped hs.2), hs.1, hs.2, rfl⟩
        · cases h
      · cases h
  · cases h
theorem od_in : OpD X (rInAll X.K) oIn := by
  intro W σ φ H S x y vx vy Q rs rx ry h
  unfold oIn at h
  split at h
  · rename_i b hb
    rcases inD_road rs rx ry hb with ⟨p, xs, e, sq, f1, f2, rfl⟩ | ⟨d, ds, h1, h2, h3, h4, rfl⟩
    · exact .inl ⟨p, xs, e, sq, f1, f2, h.ok rs _ rd_bl⟩
    · exact .inr ⟨d, ds, h1, h2, h3, h4, h.ok rs _ rd_bl⟩
  · exact h.elim
theorem od_notIn : OpD X (rNotInAll X.K) oNotIn := by
  intro W σ φ H S x y vx vy Q rs rx ry h
  unfold oNotIn at h
  split at h
  · rename_i b hb
    rcases inD_road rs rx ry hb with ⟨p, xs, e, sq, f1, f2, rfl⟩ | ⟨d, ds, h1, h2, h3, h4, rfl⟩
    · exact .inl ⟨p, xs, e, sq, f1, f2, h.ok rs _ rd_bl⟩
    · exact .inr ⟨d, ds, h1, h2, h3, h4, h.ok rs _ rd_bl⟩
  · exact h.elim
theorem Ctx.u65 {k : Nat} (c : Ctx X W k) : X.A.units + 65 < cLine := by
  have := c.hr.un
  omega

/-! ### constants of a module -/
/-- a global that is a flat constant -/
theorem se_gint {x : Str} {i : Int} {pos : Pos} (hm : ∃ t, X.mg x = some (.int i t)) (hg : Gl X x := by rfl) (hd : (x == ("__debug__" : Str)) = false := by decide) : SE X W (.Name x pos) (eC (.int i)) := by
  obtain ⟨t, hm⟩ := hm
  exact se_c (pe_glob (v := .int i) hg hm ⟨t, rfl⟩ hd)
/-- a global that is a tuple of flat constants of the written part -/
def KTup (K : PySem.W.Frag) (a : Addr) (ds : List D) : Prop := ∃ xs, (∀ H, SqT K H a xs) ∧ xs = ds.map toV ∧ ds.all flatB = true
theorem rds_of_flat {K : PySem.W.Frag} {H : Hp} {φ : List Addr} : ∀ {ds : List D}, ds.all flatB = true → RDs K H φ ds (ds.map toV)
  | [], _ => RDs.nil
  | d :: ds, h => by
    rw [List.all_cons, Bool.and_eq_true] at h
    refine RDs.cons ?_ (rds_of_flat h.2)
    cases d with
    | tup _ => exact absurd (show false = true from h.1) Bool.false_ne_true
    | ptr _ => exact absurd (show false = true from h.1) Bool.false_ne_true
    | _ => unfold RD; rfl
theorem se_gtup {x : Str} {a : Addr} {ds : List D} {pos : Pos} (hm : X.mg x = some (.ref a)) (hk : KTup X.K a ds) (hg : Gl X x := by rfl) (hd : (x == ("__debug__" : Str)) = false := by decide) : SE X W (.Name x pos) (eC (.tup ds)) := by
  obtain ⟨xs, h1, rfl, h2⟩ := hk
  refine (pe_glob (v := .ref a) hg hm rfl hd).imp fun σ H Q => ?_
  rintro ⟨φ, ρ, S, re, rs, h⟩
  refine h.ok rs _ ?_
  unfold RD
  exact ⟨a, _, rfl, h1 H, rds_of_flat h2⟩

/-! ### methods of lists -/
def isLst (S : Store) : D → Bool
  | .ptr n => match S[n]? with
    | some (.lst _) => true
    | some (.rol _) => true
    | _ => false
  | _ => false
theorem lst_ty {K : PySem.W.Frag} {H : Hp} {φ : List Addr} {S : Store} {d : D} {v : V} (rs : RS K H φ S) (rd : RD K H φ d v) (h : isLst S d = true) : tyV K "list" v H := by
  unfold isLst at h
  split at h
  · unfold RD at rd
    obtain ⟨a, ha, rfl⟩ := rd
    split at h
    · rename_i hS
      obtain ⟨a', xs, q1, q2, q3⟩ := rs.seqL (.inl hS)
      rw [ha] at q1; cases q1
      exact .inl ⟨rfl, xs, q2⟩
    · rename_i hS
      obtain ⟨a', xs, q1, q2, q3⟩ := rs.seqL (.inr hS)
      rw [ha] at q1; cases q1
      exact .inl ⟨rfl, xs, q2⟩
    · cases h
  · cases h
/-- a method of a list: what it does with the list, its arguments and the store -/
def eMtL (f : D → List D → Store → Res D) (mo : ME) (ms : MA) : ME := fun ρ S => (mo ρ S).bind fun o S1 => if isLst S1 o = true then (ms ρ S1).bind fun xs S2 => f o xs S2 else .bad
def MtD (X : Cx) (r : V → List V → Hp → VK → Prop) (f : D → List D → Store → Res D) : Prop := ∀ (W : WX) (σ : L2.St) (φ : List Addr) (H : Hp) (S : Store) (o : D) (xs : List D) (v : V) (vs : List V) (Q : VK), RS X.K H φ S → RD X.K H φ o v → RDs X.K H φ xs vs →
  LK X W σ φ H (f o xs S) (fun d _ φ' H' => ∀ v, RD X.K H' φ' d v → Q v H') → r v vs H Q
def fAppend (o : D) (xs : List D) (S : Store) : Res D := match o, xs with
  | .ptr n, [d] => match S[n]? with
    | some (.lst ys) => if ys.length < sizeLine then .ok .non (S.set n (.lst (ys ++ [d]))) else .bad
    | _ => .bad
  | _, _ => .bad
def fExtend (o : D) (xs : List D) (S : Store) : Res D := match o, xs with
  | .ptr n, [.ptr m] => match S[n]?, S[m]? with
    | some (.lst ys), some (.lst zs) => if ys.length + zs.length ≤ sizeLine then .ok .non (S.set n (.lst (ys ++ zs))) else .bad
    | _, _ => .bad
  | _, _ => .bad
theorem md_append : MtD X rAppend fAppend := by
  intro W σ φ H S o xs v vs Q rs ro rx h
  unfold fAppend at h
  split at h
  · rename_i n d
    unfold RD at ro
    obtain ⟨a, ha, rfl⟩ := ro
    obtain ⟨u, rfl, ru⟩ := rx.one
    split at h
    · rename_i ys hS
      obtain ⟨a', q1, zs, q2, q3⟩ := rs.at hS
      rw [ha] at q1; cases q1
      split at h
      · rename_i hz
        obtain ⟨w1, w2⟩ := rs.write hS ha q2 (q3.append (RDs.cons ru RDs.nil))
        exact ⟨a, zs, u, rfl, rfl, q2, by rw [q3.length]; exact hz, h φ _ w2 w1 _ rd_non⟩
      · exact h.elim
    · exact h.elim
  · exact h.elim
theorem md_extend : MtD X rExtend fExtend := by
  intro W σ φ H S o xs v vs Q rs ro rx h
  unfold fExtend at h
  split at h
  · rename_i n m
    unfold RD at ro
    obtain ⟨a, ha, rfl⟩ := ro
    obtain ⟨u, rfl, ru⟩ := rx.one
    unfold RD at ru
    obtain ⟨b, hb, rfl⟩ := ru
    split at h
    · rename_i ys zs hS hT
      obtain ⟨a', q1, vs1, q2, q3⟩ := rs.at hS
      rw [ha] at q1; cases q1
      obtain ⟨b', p1, vs2, p2, p3⟩ := rs.at hT
      rw [hb] at p1; cases p1
      split at h
      · rename_i hz
        obtain ⟨w1, w2⟩ := rs.write hS ha q2 (q3.append p3)
        exact ⟨a, b, vs1, vs2, rfl, rfl, q2, p2, by rw [q3.length, p3.length]; exact hz, h φ _ w2 w1 _ rd_non⟩
      · exact h.elim
    · exact h.elim
  · exact h.elim
theorem se_mtL {o e : Expr} {es : List Expr} {mo : ME} {ms : MA} {name : Str} {apos cpos : Pos} {id : String} {r : V → List V → Hp → VK → Prop} {f : D → List D → Store → Res D}
    (slot : Slot "list" name id) (hty : typeOf (.builtin id) = pure (.type "method_descriptor")) (hm : MtR X id r) (hd : MtD X r f) (ho : SE X W o mo) (ha : SA X W (e :: es) ms)
    (hbase : attributeBase o name X.env (eval o X.env) = eval o X.env := by rfl)
    (hfew : ((backTo cpos (starEach (e :: es) X.env)).all (fun x => !x.1) && (backToKw cpos (keywordEach [] X.env)).all (fun x => x.1.isSome)
      && decide ((e :: es).length + ([] : List Keyword).length + (if ([] : List Keyword).isEmpty then 0 else 1) < 30)) = true := by rfl)
    (hline : (apos.endLine == cpos.line) = true := by rfl) (hs : starEach (e :: es) X.env = (false, eval e X.env) :: starEach es X.env := by rfl) (hplain : (backTo cpos (starEach es X.env)).any (·.1) = false := by rfl) :
    SE X W (.Call (.Attribute o name apos) (e :: es) [] cpos) (eMtL f mo ms) := by
  refine (pe_bm PySem.F.plainAttrs_list slot hty hm ho ha hbase hfew hline hs hplain).imp fun σ H Q => ?_
  rintro ⟨φ, ρ, S, re, rs, h⟩
  refine LE.to re rs h fun x S1 φ1 H1 v x1 rs1 re1 rd h1 => ?_
  split at h1
  · rename_i hl
    refine ⟨lst_ty rs1 rd hl, LA.to re1 rs1 h1 fun xs S2 φ2 H2 vs x2 rs2 re2 rx h2 => hd W σ φ2 H2 S2 x xs v vs Q rs2 (rd.mono x2) rx h2⟩
  · exact h1.elim
theorem se_append {o e : Expr} {mo : ME} {ms : MA} {apos cpos : Pos} (ho : SE X W o mo) (ha : SA X W [e] ms) (hbase : attributeBase o "append" X.env (eval o X.env) = eval o X.env := by rfl)
    (hfew : ((backTo cpos (starEach [e] X.env)).all (fun x => !x.1) && (backToKw cpos (keywordEach [] X.env)).all (fun x => x.1.isSome)
      && decide ([e].length + ([] : List Keyword).length + (if ([] : List Keyword).isEmpty then 0 else 1) < 30)) = true := by rfl)
    (hline : (apos.endLine == cpos.line) = true := by rfl) (hs : starEach [e] X.env = (false, eval e X.env) :: starEach [] X.env := by rfl) (hplain : (backTo cpos (starEach [] X.env)).any (·.1) = false := by rfl) :
    SE X W (.Call (.Attribute o "append" apos) [e] [] cpos) (eMtL fAppend mo ms) := se_mtL PySem.F.slot_list_append PySem.F.type_list_append mt_append md_append ho ha hbase hfew hline hs hplain
theorem se_extend {o e : Expr} {mo : ME} {ms : MA} {apos cpos : Pos} (ho : SE X W o mo) (ha : SA X W [e] ms) (hbase : attributeBase o "extend" X.env (eval o X.env) = eval o X.env := by rfl)
    (hfew : ((backTo cpos (starEach [e] X.env)).all (fun x => !x.1) && (backToKw cpos (keywordEach [] X.env)).all (fun x => x.1.isSome)
      && decide ([e].length + ([] : List Keyword).length + (if ([] : List Keyword).isEmpty then 0 else 1) < 30)) = true := by rfl)
    (hline : (apos.endLine == cpos.line) = true := by rfl) (hs : starEach [e] X.env = (false, eval e X.env) :: starEach [] X.env := by rfl) (hplain : (backTo cpos (starEach [] X.env)).any (·.1) = false := by rfl) :
    SE X W (.Call (.Attribute o "extend" apos) [e] [] cpos) (eMtL fExtend mo ms) := se_mtL PySem.F.slot_list_extend PySem.F.type_list_extend mt_extend md_extend ho ha hbase hfew hline hs hplain
end
end RL

namespace RL
open PySem PySem.Spec PyProof.Rows L2

/-! ### enumerate of a tuple -/
section
variable {prog : Program} {w : World} {A : Around} {E : Value → Shared → Prop} {s : Shared}
theorem nextOf_tup_item {it t : Addr} {i : Nat} {items} {x : Value} {Q : Value → Shared → Prop} (hit : s.heap.IsTupleIter it t i) (ht : s.heap.IsTuple t items) (hx : items[i]? = some x)
    (hQ : ∀ h', h'.IsTupleIter it t (i + 1) → Heap.SameBut it s.heap h' → Q x { s with heap := h' }) : wpAny (model prog w) A (Builtin.SmallTypes.nextOf (.ref it)) Q E s := by
  obtain ⟨o, ho, hc, hd⟩ := id hit
  obtain ⟨ot, hot, _, nt, hdt⟩ := ht
  unfold Builtin.SmallTypes.nextOf
  refine wpAny_bind (wpAny_callSpecial?_slot (name := Str.ofString "__next__") hit.typeIs F.slot_tuple_iterator_next (wpAny_call_entry F.slot_tuple_iterator_next hit.typeIs F.entry_tuple_iterator_next ?_ (F.args_tuple_iterator_next_1 _)))
  show wpAny _ _ (field (.ref it) 0 >>= _) _ _ s
  refine wpAny_bind (wpAny_field ho hd (x := .ref t) rfl ?_)
  show wpAny _ _ (if (Value.ref t == Value.none) = true then _ else _) _ _ s
  rw [if_neg (show ¬ ((Value.ref t == Value.none) = true) from Bool.false_ne_true)]
  show wpAny _ _ (field (.ref it) 1 >>= _) _ _ s
  refine wpAny_bind (wpAny_field ho hd (x := .int i 0) rfl ?_)
  show wpAny _ _ (seqItems? (.ref t) >>= _) _ _ s
  refine wpAny_bind (wpAny_seqItems hot hdt ?_)
  simp only [Int.toNat_natCast, hx]
  refine wpAny_bind (wpAny_setField ho hd (by simp) (wpAny_pure ⟨x, rfl, wpAny_pure (hQ _ ?_ (Heap.SameBut.update ..))⟩))
  exact ⟨_, Heap.get?_update_self _ ho (Obj.isFreed_of_fields (Obj.data_mapFields hd _)), (Obj.cls_mapFields ..).trans hc, by rw [Obj.data_mapFields hd]; simp [rawInt]⟩
theorem nextOf_tup_end {it t : Addr} {i : Nat} {items} {Q : Value → Shared → Prop} (hh : A.handled = none) (hit : s.heap.IsTupleIter it t i) (ht : s.heap.IsTuple t items) (hx : items[i]? = none)
    (hE : ∀ h' e, Heap.ExtBut it s.heap h' → (∃ o, h'.get? e = some o ∧ o.cls = .type "StopIteration") → E (.ref e) { s with heap := h' }) : wpAny (model prog w) A (Builtin.SmallTypes.nextOf (.ref it)) Q E s := by
  obtain ⟨o, ho, hc, hd⟩ := id hit
  obtain ⟨ot, hot, _, nt, hdt⟩ := ht
  unfold Builtin.SmallTypes.nextOf
  refine wpAny_bind (wpAny_callSpecial?_slot (name := Str.ofString "__next__") hit.typeIs F.slot_tuple_iterator_next (wpAny_call_entry F.slot_tuple_iterator_next hit.typeIs F.entry_tuple_iterator_next ?_ (F.args_tuple_iterator_next_1 _)))
  show wpAny _ _ (field (.ref it) 0 >>= _) _ _ s
  refine wpAny_bind (wpAny_field ho hd (x := .ref t) rfl ?_)
  show wpAny _ _ (if (Value.ref t == Value.none) = true then _ else _) _ _ s
  rw [if_neg (show ¬ ((Value.ref t == Value.none) = true) from Bool.false_ne_true)]
  show wpAny _ _ (field (.ref it) 1 >>= _) _ _ s
  refine wpAny_bind (wpAny_field ho hd (x := .int i 0) rfl ?_)
  show wpAny _ _ (seqItems? (.ref t) >>= _) _ _ s
  refine wpAny_bind (wpAny_seqItems hot hdt ?_)
  simp only [Int.toNat_natCast, hx]
  refine wpAny_bind (wpAny_rule (wpAny_bind (wpAny_setField ho hd (by simp) ?_)))
  show wpAny _ _ (newExc (.type "StopIteration") [] >>= _) _ _ _
  refine wpAny_bind ?_
  simp only [newExc, newTuple]
  refine wpAny_bind (wpAny_newObj_type ?_ (by size_fits))
  refine wpAny_bind (m := firstArgMember _ _) (wpAny_of_eq (a := Value.none) (by first | rfl | (simp only [firstArgMember]; rfl)) ?_)
  refine wpAny_newObj_type ?_ (by size_fits)
  simp only [raiseNew]
  refine wpAny_bind (wpAny_handled ?_)
  first | rw [show A.in1.handled = none from hh] | rw [hh]
  refine wpAny_bind (wpAny_pure (wpAny_throw ?_))
  exact hE _ _ (((Heap.SameBut.update ..).extBut.push _).push _) ⟨_, Heap.get?_push_size _ rfl, rfl⟩
end
theorem tupleIter_at {h h' : Heap} {it t : Addr} {i : Nat} (x : h.IsTupleIter it t i) (k : ∀ o, h.get? it = some o → h'.get? it = some o) : h'.IsTupleIter it t i := let ⟨o, ho, r⟩ := x; ⟨o, k o ho, r⟩
theorem tuple_at {h h' : Heap} {t : Addr} {items : Array Value} (x : h.IsTuple t items) (k : ∀ o, h.get? t = some o → h'.get? t = some o) : h'.IsTuple t items := let ⟨o, ho, r⟩ := x; ⟨o, k o ho, r⟩
theorem drawsT {prog : Program} {w : World} {A : Around} (hh : A.handled = none) (it t : Addr) (hne : t ≠ it) (items : Array Value) :
    Draws prog w A it [it, t] items.size (fun i v => items[i]? = some v) (fun i h => h.IsTupleIter it t i ∧ h.IsTuple t items) where
  live := fun _ _ st => let ⟨o, ho, _⟩ := st.1; ⟨o, ho⟩
  frame := fun _ _ _ st hk => ⟨tupleIter_at st.1 fun o e => hk it (by simp) o e, tuple_at st.2 fun o e => hk t (by simp) o e⟩
  item := fun i s Q E hi st hQ => by
    refine nextOf_tup_item st.1 st.2 (x := items[i]) (by simp [hi]) fun h' hit' hs' => ?_
    exact hQ _ h' s.toks (by simp [hi]) ⟨hit', st.2.extBut hs'.extBut hne⟩ hs'
  done := fun s Q E st hE => nextOf_tup_end hh st.1 st.2 (by simp) hE

open AutoSeq1 (wpAny_loadPart')
theorem meets_enumerate_newT (l : Addr) (items : Array Value) (n : Nat) (dct : Option Addr) (sl : Array (Option Value)) :
    Meets (Builtin.«enumerate.__new__» ⟨[.type "enumerate", .ref l], []⟩) (fun _ R s => s.heap.get? l = some { cls := .type "tuple", dict := dct, data := .seq items n, slots := sl } ∧
      R (.ok (.ret (.ref (s.heap.push { cls := .type "tuple_iterator", data := .fields #[.ref l, .int 0 0] }).objs.size)))
        { s with heap := (s.heap.push { cls := .type "tuple_iterator", data := .fields #[.ref l, .int 0 0] }).push { cls := .type "enumerate", data := .fields #[.none, .bool false, .ref s.heap.objs.size, rawInt 0, .none, .none] } }) :=
  .of_wp fun prog w A R s h => by
    obtain ⟨hp, g, d, tk, os⟩ := s; obtain ⟨hl, h⟩ := h
    have hsub := sub_enumerate
    have hL : Heap.IsTuple (Shared.heap ⟨hp, g, d, tk, os⟩) l items := ⟨_, hl, rfl, n, rfl⟩
    wp_walk using wpAny_loadPart' hl
    refine wpAny_stack_any fun st => wpAny_pure ?_
    split
    · rename_i c _ _ _ _ _
      cases (c == Value.type "enumerate")
      · wp_walk using wpAny_loadPart' hl, wpAny_pyIter_tuple hL
        exact ⟨_, rfl, h⟩
      · wp_walk using wpAny_loadPart' hl, wpAny_pyIter_tuple hL
        exact ⟨_, rfl, h⟩
    · wp_walk using wpAny_loadPart' hl, wpAny_pyIter_tuple hL
      exact ⟨_, rfl, h⟩
section
variable {prog : Program} {w : World} {A : Around} {E : Value → Shared → Prop} {s : Shared}
theorem call_enumerate_tuple {l : Addr} {items : Array Value} {Q : Value → Shared → Prop} (hL : s.heap.IsTuple l items)
    (h : ∀ h', IsEnum h' (s.heap.objs.size + 1) s.heap.objs.size 0 .none → h'.IsTupleIter s.heap.objs.size l 0 → h'.objs.size = s.heap.objs.size + 2 →
      (∀ b o, s.heap.get? b = some o → h'.get? b = some o) → Q (.ref (s.heap.objs.size + 1)) { s with heap := h' }) :
    wpAny (model prog w) A (call (.type "enumerate") [.ref l]) Q E s := by
  obtain ⟨⟨c, dct, dt, sl⟩, hl, hc, n, hd⟩ := hL
  replace hc : c = .type "tuple" := hc
  replace hd : dt = .seq items n := hd
  subst hc hd
  refine callType_new F.called_enumerate (by decide) (F.typeCall_enumerate_1 _) (F.newCall_enumerate_1 _) (fun obj => F.args_object_init_2 obj _) F.entry_enumerate_new (meets_enumerate_newT l items n dct sl) ⟨hl, ?_⟩
  have hz : (s.heap.push { cls := .type "tuple_iterator", data := .fields #[.ref l, .int 0 0] }).objs.size = s.heap.objs.size + 1 := Heap.size_push ..
  show _ ∧ _
  rw [hz]
  have he : IsEnum ((s.heap.push { cls := .type "tuple_iterator", data := .fields #[.ref l, .int 0 0] }).push
      { cls := .type "enumerate", data := .fields #[.none, .bool false, .ref s.heap.objs.size, rawInt 0, .none, .none] }) (s.heap.objs.size + 1) s.heap.objs.size 0 .none := by
    have := Heap.get?_push_size (s.heap.push { cls := .type "tuple_iterator", data := .fields #[.ref l, .int 0 0] })
      (o := { cls := .type "enumerate", data := .fields #[.none, .bool false, .ref s.heap.objs.size, rawInt 0, .none, .none] }) rfl
    rw [hz] at this; exact this
  refine ⟨⟨_, he, rfl⟩, h _ he ⟨_, Heap.get?_push_of_some _ (Heap.get?_push_size _ rfl), rfl, rfl⟩ (by rw [Heap.size_push, hz]) fun b o x => Heap.get?_push_of_some _ (Heap.get?_push_of_some _ x)⟩
end
/-- a tuple, each item in a new pair with its place -/
def Iten (K : PySem.W.Frag) (a : Addr) : It :=
  ⟨fun i H => ∃ (xs : List V) (x : V), SqT K H a xs ∧ xs[i]? = some x, fun i H v H' => ∃ T x, v = .ref T ∧ H T = none ∧ H' = upd H T (.tup [.int (i : Nat), x]) ∧ ∀ xs, SqT K H a xs → xs[i]? = some x, fun i H => ∃ xs : List V, SqT K H a xs ∧ xs.length ≤ i⟩
theorem turn_enumT {P : Program} {w : World} {K : PySem.W.Frag} {elts : List Expr} {kk : Nat} {tpos : Pos} (a e it : Addr) :
    Turn P w K (.Tuple elts kk tpos) (Iten K a) [e, it] e (fun i h => (∃ old, IsEnum h e it ((i : Nat) : Int) old) ∧ h.IsTupleIter it a i ∧ e ≠ it) where
  mem := by simp
  obj := fun i h st b hb => by
    obtain ⟨⟨old, he⟩, ⟨o, ho, hc, hd⟩, _⟩ := st
    have e' : b = e ∨ b = it := by simpa using hb
    rcases e' with z | z
    · rw [z]; exact ⟨_, he, fun v q => nomatch q⟩
    · rw [z]; exact ⟨o, ho, fun v q => by rw [hd] at q; cases q⟩
  keep := fun i h h' st k => let ⟨⟨old, he⟩, hi, hne⟩ := st; ⟨⟨old, k e (by simp) _ he⟩, tupleIter_at hi fun o q => k it (by simp) o q, hne⟩
  item := by
    intro X hP hw hK hc i pins s σ H E I hf st hg
    subst hP hw hK
    obtain ⟨⟨old, he⟩, hit, hne⟩ := st
    obtain ⟨xs, x, hq, hx⟩ := hg
    obtain ⟨its, rv, p, hz⟩ := I.tuple hq
    obtain ⟨u, hu, ru⟩ := rv.get hx
    have hT0 : s.heap.IsTuple a its.toArray := p
    have hel : e < s.heap.objs.size := Heap.lt_size he
    have hil : it < s.heap.objs.size := by obtain ⟨_, q, _⟩ := hit; exact Heap.lt_size q
    have hai : a ≠ it := by
      rintro rfl
      obtain ⟨o1, h1, c1, _⟩ := hit
      obtain ⟨o2, h2, c2, _⟩ := hT0
      rw [h1] at h2; cases h2
      rw [c1] at c2
      injection c2 with c3
      exact absurd c3 (by decide)
    have hae : a ≠ e := by
      rintro rfl
      obtain ⟨o2, h2, c2, _⟩ := hT0
      have := he.symm.trans h2
      cases this
      injection c2 with c3
      exact absurd c3 (by decide)
    have hlt : i < its.toArray.size := by
      have := (List.getElem?_eq_some_iff.mp hu).1
      simpa using this
    refine wpAny_pyNext_enum_itemD (drawsT (A := X.A.in1) (show X.A.in1.handled = none from I.ok.hd hc) it a hai its.toArray) he ⟨hit, hT0⟩ hlt hne (by simp [hne, Ne.symm hae]) fun x' h' tk hP ho hst' hT hsz hk => ?_
    have ex : x' = u := by
      have e1 : its[i]? = some x' := by simpa using hP
      rw [hu] at e1
      exact (Option.some.inj e1).symm
    subst ex
    refine ⟨_, rfl, wpAny_letOwnedTupleGo_enum (s := { s with heap := h', toks := tk + 1 }) ho fun h'' he' sb => ?_⟩
    have hT2 : h''.get? s.heap.objs.size = some { cls := .type "tuple", data := .seq #[.int i tk, x'] } := (sb.2 _ (Nat.ne_of_gt hel)).trans hT
    have new : ObjOk X.prog X.w (upd H s.heap.objs.size (.tup [.int (i : Nat), x])) h'' s.heap.objs.size (.tup [.int (i : Nat), x]) :=
      ⟨by show 2 ≤ sizeLine; decide, [.int i tk, x'], .cons ⟨_, rfl⟩ (.cons ru .nil), ⟨_, hT2, rfl, _, rfl⟩⟩
    have I1 : Inv X pins σ (upd H s.heap.objs.size (.tup [.int (i : Nat), x])) { s with heap := h'', toks := tk + 1 } :=
      I.turnedNew (ch := [e, it]) (fun b ob hb q => (sb.2 b (fun z => hb (by simp [z]))).trans (hk b ob (fun z => hb (by simp [z])) (fun z => hb (by simp [z])) q)) hf (Nat.le_refl _) new
    refine ⟨.ref s.heap.objs.size, _, I1, rfl, ⟨_, x, rfl, I.hok.fresh (Nat.le_refl _), rfl, fun ys hy => by rw [I.tuple_inj hy hq]; exact hx⟩, ⟨⟨x', ?_⟩, tupleIter_at hst'.1 fun o q => (sb.2 it (Ne.symm hne)).trans q, hne⟩, fun b hb => ?_⟩
    · have e1 : ((i + 1 : Nat) : Int) = (i : Int) + 1 := by omega
      rw [e1]; exact he'
    · have hb' : b < s.heap.objs.size := by
        have e' : b = e ∨ b = it := by simpa using hb
        rcases e' with z | z
        · rw [z]; exact hel
        · rw [z]; exact hil
      rw [upd_ne (Nat.ne_of_lt hb')]
      exact (hf b hb).1
  done := by
    intro X hP hw hK hc i pins s σ H E I hf st hg
    subst hP hw hK
    obtain ⟨⟨old, he⟩, hit, hne⟩ := st
    obtain ⟨xs, hq, hx⟩ := hg
    obtain ⟨its, rv, p, hz⟩ := I.tuple hq
    obtain ⟨f0, f1, f2, f3, f4, f5⟩ := hf it (by simp)
    have hl := rv.length
    have hT0 : s.heap.IsTuple a its.toArray := p
    have hT : s.TypeIs (.ref e) "enumerate" := ⟨_, he, rfl⟩
    unfold pyNext
    refine wpAny_bind (wpAny_attempt (wpAny_callSpecial?_slot (name := Str.ofString "__next__") hT F.slot_enumerate_next (wpAny_call_entry F.slot_enumerate_next hT F.entry_enumerate_next ?_ (F.args_enumerate_next_1 _))))
    show wpAny _ _ (field (.ref e) 2 >>= _) _ _ _
    refine wpAny_bind (wpAny_field he rfl (x := .ref it) rfl ?_)
    refine wpAny_bind (nextOf_tup_end (I.ok.hd hc) hit hT0 (by simp; omega) fun h' x eb hx' => ?_)
    obtain ⟨o, ho, hcl⟩ := hx'
    refine wpAny_bind (wpAny_isInstance (T := "StopIteration") (b := true) ⟨o, ho, hcl⟩ isSubtype_stop ?_)
    exact wpAny_pure ⟨rfl, I.turned (t' := s.toks) (fun b o hb q => eb b o hb q) f0 f1 f3 f4 f5⟩
  self := fun A i s Q E st h => let ⟨⟨_, he⟩, _⟩ := st; wpAny_pyIter_enum he h
end RL

namespace RL
open PySem PySem.Spec PyProof.Rows L2

/-! ### for i, x in enumerate(..) -/
def iEnumT (K : PySem.W.Frag) (ta : TA) : TI := fun σ H R => ta σ H fun vs H1 => ∃ a xs, vs = [.ref a] ∧ SqT K H1 a xs ∧ R (Iten K a) H1
theorem pi_enumT {X : Cx} {e : Expr} {ta : TA} {p pos tpos : Pos} {elts : List Expr} {kk : Nat} (hg : Gl X "enumerate") (hm : X.mg "enumerate" = none) (ha : PA X [e] ta) (hs : starEach [e] X.env = [(false, eval e X.env)] := by rfl) :
    PI X (.Tuple elts kk tpos) (.Call (.Name "enumerate" p) [e] [] pos) (iEnumT X.K ta) := by
  refine ⟨fun pins s σ H R I h => ?_⟩
  refine Call_ (ld_blt I hg hm boot_enumerate (PyProof.Rows.callWith_type1 (thn (ha.run pos pins s σ H _ I h) fun us s1 ⟨vs, H1, I1, r1, q1⟩ => ?_) hs rfl))
  obtain ⟨a, xs, rfl, hq, q⟩ := q1
  obtain ⟨u, rfl, ru⟩ := vals1 r1
  cases ru
  obtain ⟨its, rv, p', hz⟩ := I1.tuple hq
  refine call_enumerate_tuple (show s1.heap.IsTuple a its.toArray from p') fun h' he hit hsz hk => wpAny_pyIter_enum he ?_
  have I2 : Inv X pins σ H1 { s1 with heap := h' } := I1.kept (t' := s1.toks) hk
  refine ⟨s1.heap.objs.size + 1, [s1.heap.objs.size + 1, s1.heap.objs.size], _, _, H1, rfl, I2, turn_enumT a (s1.heap.objs.size + 1) s1.heap.objs.size, ⟨⟨.none, he⟩, hit, Nat.succ_ne_self _⟩, fun b hb => ?_, q⟩
  have hle : s1.heap.objs.size ≤ b := by
    have e' : b = s1.heap.objs.size + 1 ∨ b = s1.heap.objs.size := by simpa using hb
    rcases e' with z | z
    · rw [z]; exact Nat.le_add_right _ _
    · rw [z]; exact Nat.le_refl _
  exact I1.fpOk hle (I1.hok.fresh hle)
def enumD : Nat → List D → List D
  | _, [] => []
  | k, d :: r => .tup [.int (k : Nat), d] :: enumD (k + 1) r
theorem enumD_len : ∀ (ds : List D) (k : Nat), (enumD k ds).length = ds.length
  | [], _ => rfl
  | _ :: ds, k => by
    show (enumD (k + 1) ds).length + 1 = _
    rw [enumD_len ds]; rfl
theorem enumD_get : ∀ (ds : List D) (k i : Nat) (d : D), ds[i]? = some d → (enumD k ds)[i]? = some (.tup [.int ((k + i : Nat) : Int), d])
  | [], _, _, _, h => by simp at h
  | x :: ds, k, 0, d, h => by
    have e : x = d := Option.some.inj h
    subst e
    rfl
  | x :: ds, k, i + 1, d, h => by
    show (enumD (k + 1) ds)[i]? = _
    rw [enumD_get ds (k + 1) i d h, show k + 1 + i = k + (i + 1) by omega]
def iEnumM (ms : MA) : MI := fun ρ S => (ms ρ S).bind fun xs S1 => match xs with
  | [.tup ds] => .ok ⟨enumD 0 ds, fun _ => True⟩ S1
  | [.ptr n] => match S1[n]? with
    | some (.lst ds) => .ok ⟨enumD 0 ds, fun S => S[n]? = some (.lst ds)⟩ S1
    | some (.rol ds) => .ok ⟨enumD 0 ds, fun S => S[n]? = some (.rol ds)⟩ S1
    | _ => .bad
  | _ => .bad
theorem pair_new {K : PySem.W.Frag} {H : Hp} {φ : List Addr} {S : Store} {T : Addr} {i : Nat} {d : D} {v : V} (rs : RS K H φ S) (rd : RD K H φ d v) (hT : H T = none) :
    Ext K φ H φ (upd H T (.tup [.int (i : Nat), v])) ∧ RS K (upd H T (.tup [.int (i : Nat), v])) φ S ∧ RD K (upd H T (.tup [.int (i : Nat), v])) φ (.tup [.int (i : Nat), d]) (.ref T) :=
  ⟨Ext.new hT, rs.new hT, od_new (RDs.cons rd_int (RDs.cons rd RDs.nil)) hT⟩
section
variable {X : Cx} {W : WX} {k : Nat} {e : Expr} {ms : MA}
theorem si_enum {p pos tpos : Pos} {elts : List Expr} {kk : Nat} (hm : X.mg "enumerate" = none) (ha : SA X W [e] ms) (hg : Gl X "enumerate" := by rfl) (hs : starEach [e] X.env = [(false, eval e X.env)] := by rfl) :
    SI X W (.Tuple elts kk tpos) (.Call (.Name "enumerate" p) [e] [] pos) (iEnumM ms) := by
  refine ((pi_enumT hg hm ha hs).or (pi_enum hg hm ha hs)).imp fun σ H R => ?_
  rintro ⟨φ, ρ, S, re, rs, h⟩
  have lists : ∀ (n : Nat) (ds : List D) (chk : Store → Prop) (S1 : Store), (∀ S, chk S → S[n]? = some (.lst ds) ∨ S[n]? = some (.rol ds)) → ∀ {φ1 : List Addr} {a : Addr} {H1 : Hp}, φ1[n]? = some a → WalkA X.K φ1 H1 (Ite X.K a) ⟨enumD 0 ds, chk⟩ := by
    intro n ds chk S1 hc φ1 a H1 ha
    have get : ∀ φ H S, Ext X.K φ1 H1 φ H → RS X.K H φ S → chk S → ∃ xs, SqL X.K H a xs ∧ RDs X.K H φ ds xs := fun φ H S x rs c => by
      obtain ⟨a', xs, q1, q2, q3⟩ := rs.seqL (hc S c)
      rw [x.pre _ _ ha] at q1; cases q1
      exact ⟨xs, q2, q3⟩
    refine ⟨fun i φ H S hi x rs c => ?_, fun φ H S x rs c => ?_, fun i φ H S v H' hi x rs c y => ?_⟩
    · obtain ⟨xs, s, q⟩ := get φ H S x rs c
      rw [enumD_len] at hi
      have hi : i < xs.length := by rw [q.length]; exact hi
      exact ⟨xs, xs[i], s, List.getElem?_eq_getElem hi⟩
    · obtain ⟨xs, s, q⟩ := get φ H S x rs c
      exact ⟨xs, s, by rw [enumD_len]; exact Nat.le_of_eq q.length⟩
    · obtain ⟨xs, s, q⟩ := get φ H S x rs c
      obtain ⟨T, u, rfl, hT, rfl, hu⟩ := y
      obtain ⟨d, h1, h2⟩ := q.pt (hu xs s)
      obtain ⟨z1, z2, z3⟩ := pair_new (i := i) rs h2 hT
      exact ⟨_, by rw [enumD_get ds 0 i d h1, Nat.zero_add], z1, z2, z3⟩
  cases hm2 : ms ρ S with
  | bad => simp only [iEnumM, hm2, Res.bind] at h; exact h.elim
  | exn x S1 => exact .inl ⟨φ, ρ, S, re, rs, by simp only [iEnumM, hm2, Res.bind] at h ⊢; exact h⟩
  | ok xs S1 =>
    simp only [iEnumM, hm2, Res.bind] at h
    split at h
    · rename_i ds
      refine .inl ⟨φ, ρ, S, re, rs, ?_⟩
      rw [hm2]
      intro φ1 H1 x1 rs1 vs rv
      obtain ⟨v, rfl, r1⟩ := rv.one
      unfold RD at r1
      obtain ⟨a, us, rfl, s, q⟩ := r1
      refine ⟨a, us, rfl, s, h φ1 H1 x1 rs1 _ ⟨fun i φ2 H2 S2 hi x2 rs2 _ => ?_, fun φ2 H2 S2 x2 rs2 _ => ?_, fun i φ2 H2 S2 v H' hi x2 rs2 _ y => ?_⟩⟩
      · rw [enumD_len] at hi
        have hi : i < us.length := by rw [q.length]; exact hi
        exact ⟨us, us[i], x2.tup _ _ s, List.getElem?_eq_getElem hi⟩
      · exact ⟨us, x2.tup _ _ s, by rw [enumD_len]; exact Nat.le_of_eq q.length⟩
      · obtain ⟨T, u, rfl, hT, rfl, hu⟩ := y
        obtain ⟨d, h1, h2⟩ := (q.mono x2).pt (hu us (x2.tup _ _ s))
        obtain ⟨z1, z2, z3⟩ := pair_new (i := i) rs2 h2 hT
        exact ⟨_, by rw [enumD_get ds 0 i d h1, Nat.zero_add], z1, z2, z3⟩
    · rename_i n
      refine .inr ⟨φ, ρ, S, re, rs, ?_⟩
      rw [hm2]
      intro φ1 H1 x1 rs1 vs rv
      obtain ⟨v, rfl, r1⟩ := rv.one
      unfold RD at r1
      obtain ⟨a, ha, rfl⟩ := r1
      split at h
      · rename_i ds hS
        obtain ⟨a', us, q1, q2, q3⟩ := rs1.seqL (.inl hS)
        rw [ha] at q1; cases q1
        exact ⟨a, us, rfl, q2, h φ1 H1 x1 rs1 _ (lists n ds _ S1 (fun S c => .inl c) ha)⟩
      · rename_i ds hS
        obtain ⟨a', us, q1, q2, q3⟩ := rs1.seqL (.inr hS)
        rw [ha] at q1; cases q1
        exact ⟨a, us, rfl, q2, h φ1 H1 x1 rs1 _ (lists n ds _ S1 (fun S c => .inr c) ha)⟩
      · exact h.elim
    · exact h.elim
end
end RL

namespace RL
open PySem PySem.Spec PyProof.Rows L2

/-! ### all, any of a list of bools -/
theorem vals_bools : ∀ {bs : List Bool} {us : List Value}, Vals (bs.map V.bl) us → us = bs.map Value.bool
  | [], us, r => by rw [List.map_nil] at r; cases r; rfl
  | b :: bs, us, r => by
    rw [List.map_cons] at r
    cases r with
    | cons r1 r2 =>
      have e : _ = Value.bool b := r1
      rw [e, vals_bools r2]; rfl
theorem all_range (bs : List Bool) : (List.range bs.length).all (fun i => bs.getD i false) = bs.all id := by
  rw [Bool.eq_iff_iff, List.all_eq_true, List.all_eq_true]
  constructor
  · intro h b hb
    obtain ⟨i, hi, rfl⟩ := List.getElem_of_mem hb
    have := h i (List.mem_range.mpr hi)
    rw [List.getD_eq_getElem?_getD, List.getElem?_eq_getElem hi] at this
    exact this
  · intro h i hi
    have hi := List.mem_range.mp hi
    rw [List.getD_eq_getElem?_getD, List.getElem?_eq_getElem hi]
    exact h _ (List.getElem_mem hi)
theorem any_range (bs : List Bool) : (List.range bs.length).any (fun i => bs.getD i false) = bs.any id := by
  rw [Bool.eq_iff_iff, List.any_eq_true, List.any_eq_true]
  constructor
  · rintro ⟨i, hi, h⟩
    have hi := List.mem_range.mp hi
    rw [List.getD_eq_getElem?_getD, List.getElem?_eq_getElem hi] at h
    exact ⟨_, List.getElem_mem hi, h⟩
  · rintro ⟨b, hb, h⟩
    obtain ⟨i, hi, rfl⟩ := List.getElem_of_mem hb
    refine ⟨i, List.mem_range.mpr hi, ?_⟩
    rw [List.getD_eq_getElem?_getD, List.getElem?_eq_getElem hi]
    exact h
section
variable {X : Cx}
def rBools (K : PySem.W.Frag) (f : List Bool → Bool) : List V → Hp → VK → Prop := fun xs H Q => ∃ a bs, xs = [.ref a] ∧ SqL K H a (bs.map V.bl) ∧ Q (.bl (f bs)) H
theorem truth_bools {prog : Program} {w : World} {A : Around} {bs : List Bool} : TruthOf prog w A (fun i v => (bs.map Value.bool).toArray[i]? = some v) (fun i => bs.getD i false) := by
  intro i v s Q E hP hQ
  have e : (bs[i]?).map Value.bool = some v := by simpa using hP
  cases hb : bs[i]? with
  | none => rw [hb] at e; cases e
  | some b =>
    rw [hb] at e
    cases e
    refine wpAny_truthy_bool ?_
    have hQ : Q (bs.getD i false) s := hQ
    rw [List.getD_eq_getElem?_getD, hb] at hQ
    exact hQ
theorem call_allL (hc : X.calm = true) : CallR X (.builtin "all") (rBools X.K fun bs => bs.all id) := by
  intro pins s σ H xs us Q I r h
  obtain ⟨a, bs, rfl, hq, q⟩ := h
  obtain ⟨u, rfl, ru⟩ := vals1 r
  cases ru
  obtain ⟨its, rv, p, hz⟩ := I.list hq
  obtain rfl := vals_bools rv
  have hla : a < s.heap.objs.size := by obtain ⟨o, _, ho, _⟩ := p; exact Heap.lt_size ho
  refine call_all_walk (wpAny_pyIter_list p.isList ?_)
  refine ⟨s.heap.objs.size, _, _, _, _, _, fun i => bs.getD i false, rfl, Walks.list (A := X.A.in1) (show X.A.in1.handled = none from I.ok.hd hc) s.heap.objs.size a (Nat.ne_of_lt hla) (bs.map Value.bool).toArray, ⟨⟨_, Heap.get?_push_size _ rfl, rfl, rfl⟩, p.isList.push _⟩, truth_bools, fun h' tk keep => ?_⟩
  rw [show ((bs.map Value.bool).toArray).size = bs.length by simp, all_range]
  exact ⟨.bl _, H, I.kept (t' := tk) fun b o e => keep b o (by simpa using Nat.ne_of_lt (Heap.lt_size e)) (Heap.get?_push_of_some _ e), rfl, q⟩
theorem call_anyL (hc : X.calm = true) : CallR X (.builtin "any") (rBools X.K fun bs => bs.any id) := by
  intro pins s σ H xs us Q I r h
  obtain ⟨a, bs, rfl, hq, q⟩ := h
  obtain ⟨u, rfl, ru⟩ := vals1 r
  cases ru
  obtain ⟨its, rv, p, hz⟩ := I.list hq
  obtain rfl := vals_bools rv
  have hla : a < s.heap.objs.size := by obtain ⟨o, _, ho, _⟩ := p; exact Heap.lt_size ho
  refine call_any_walk (wpAny_pyIter_list p.isList ?_)
  refine ⟨s.heap.objs.size, _, _, _, _, _, fun i => bs.getD i false, rfl, Walks.list (A := X.A.in1) (show X.A.in1.handled = none from I.ok.hd hc) s.heap.objs.size a (Nat.ne_of_lt hla) (bs.map Value.bool).toArray, ⟨⟨_, Heap.get?_push_size _ rfl, rfl, rfl⟩, p.isList.push _⟩, truth_bools, fun h' tk keep => ?_⟩
  rw [show ((bs.map Value.bool).toArray).size = bs.length by simp, any_range]
  exact ⟨.bl _, H, I.kept (t' := tk) fun b o e => keep b o (by simpa using Nat.ne_of_lt (Heap.lt_size e)) (Heap.get?_push_of_some _ e), rfl, q⟩
def boolsOf : List D → Option (List Bool)
  | [] => some []
  | .bl b :: r => match boolsOf r with
    | some bs => some (b :: bs)
    | none => none
  | _ => none
theorem boolsOf_map : ∀ {xs : List D} {bs : List Bool}, boolsOf xs = some bs → xs = bs.map D.bl
  | [], ns, h => by unfold boolsOf at h; cases h; rfl
  | x :: xs, ns, h => by
    unfold boolsOf at h
    split at h
    · rename_i e; cases e
    · rename_i i r e
      cases e
      split at h
      · rename_i ms hm
        cases h
        rw [boolsOf_map hm]; rfl
      · cases h
    · cases h
theorem rds_bools {K : PySem.W.Frag} {H : Hp} {φ : List Addr} : ∀ {bs : List Bool} {vs : List V}, RDs K H φ (bs.map D.bl) vs → vs = bs.map V.bl
  | [], vs, h => by unfold RDs at h; exact h
  | n :: ns, vs, h => by
    rw [List.map_cons] at h
    unfold RDs at h
    obtain ⟨v, vs', rfl, r, t⟩ := h
    unfold RD at r
    rw [r, rds_bools t]; rfl
def fBools (f : List Bool → Bool) : Fn
  | [.ptr n], S => match S[n]? with
    | some (.lst xs) => match boolsOf xs with
      | some bs => .ok (.bl (f bs)) S
      | none => .bad
    | some (.rol xs) => match boolsOf xs with
      | some bs => .ok (.bl (f bs)) S
      | none => .bad
    | _ => .bad
  | _, _ => .bad
def fAll : Fn := fBools fun bs => bs.all id
def fAny : Fn := fBools fun bs => bs.any id
theorem cd_bools (f : List Bool → Bool) : CallD X (rBools X.K f) (fBools f) := by
  intro W σ φ H S xs vs Q rs r h
  unfold fBools at h
  split at h
  · rename_i n
    obtain ⟨v, rfl, rx⟩ := r.one
    unfold RD at rx
    obtain ⟨a, ha, rfl⟩ := rx
    have go : ∀ ys, (S[n]? = some (.lst ys) ∨ S[n]? = some (.rol ys)) → LK X W σ φ H (match boolsOf ys with | some bs => .ok (.bl (f bs)) S | none => .bad) (fun d _ φ' H' => ∀ v, RD X.K H' φ' d v → Q v H') → rBools X.K f [V.ref a] H Q := by
      intro ys hS h
      obtain ⟨a', us, q1, q2, q3⟩ := rs.seqL hS
      rw [ha] at q1; cases q1
      split at h
      · rename_i bs hb
        rw [boolsOf_map hb] at q3
        obtain rfl := rds_bools q3
        exact ⟨a, bs, rfl, q2, h.ok rs _ rd_bl⟩
      · exact h.elim
    split at h
    · rename_i ys hS; exact go ys (.inl hS) h
    · rename_i ys hS; exact go ys (.inr hS) h
    · exact h.elim
  · exact h.elim
theorem boot_allD : bootBuiltins "all" = some (.builtin "all") := by decide +kernel
theorem boot_anyD : bootBuiltins "any" = some (.builtin "any") := by decide +kernel
theorem cd_all : CallD X (rBools X.K fun bs => bs.all id) fAll := cd_bools _
theorem cd_any : CallD X (rBools X.K fun bs => bs.any id) fAny := cd_bools _
end
end RL

namespace RL
open PySem PySem.Spec PyProof.Rows L2

section
variable {X : Cx} {W : WX}
theorem se_gtupE {x : Str} {ds : List D} {pos : Pos} (h : ∃ a, X.mg x = some (.ref a) ∧ KTup X.K a ds) (hg : Gl X x := by rfl) (hd : (x == ("__debug__" : Str)) = false := by decide) : SE X W (.Name x pos) (eC (.tup ds)) := by
  obtain ⟨a, h1, h2⟩ := h
  exact se_gtup h1 h2 hg hd
end
section
variable {X : Cx} {W : WX} {a b c : Expr} {pos : Pos} {ma mb mc : ME}
theorem st_chain {op op' : CmpOp} {r r' : R2} {f g : D → D → Store → Res D} (ho : OpR X (compareOp op) r) (hd : OpD X r f) (ho' : OpR X (compareOp op') r') (hd' : OpD X r' g) (ha : SE X W a ma) (hb : SE X W b mb) (hc : SE X W c mc)
    (hm : lastMarks [op, op'] [b, c] = false := by with_unfolding_all rfl) : ST X W (.Compare a [op, op'] [b, c] pos) (tOf (eChain f g ma mb mc)) := by
  refine (pt_chain ho ho' ha hb hc hm).imp fun σ H Q h => ?_
  have h2 : LE X W (eChain f g ma mb mc) σ H (fun x H' => ∃ k, x = .bl k ∧ Q k H') := by
    obtain ⟨φ, ρ, S, re, rs, h⟩ := h
    refine ⟨φ, ρ, S, re, rs, (LK.bind h).mono fun d S1 φ1 H1 x1 rs1 kk v rd => ?_⟩
    split at kk
    · unfold RD at rd
      exact ⟨_, rd, kk.ok rs1⟩
    · exact kk.elim
  show tChain r r' (LE X W ma) (LE X W mb) (LE X W mc) σ H (fun x H' => ∃ k, x = .bl k ∧ Q k H')
  obtain ⟨φ, ρ, S, re, rs, h⟩ := h2
  refine LE.to re rs h fun x S1 φ1 H1 vx x1 rs1 re1 rx h1 => LE.to re1 rs1 h1 fun y S2 φ2 H2 vy x2 rs2 re2 ry h2 => ?_
  refine hd W σ φ2 H2 S2 x y vx vy _ rs2 (rx.mono x2) ry ((LK.bind h2).mono fun z S3 φ3 H3 x3 rs3 k v rd => ?_)
  split at k
  · unfold RD at rd
    exact ⟨true, rd, iteT (LE.to (re2.mono x3) rs3 k fun w S4 φ4 H4 vw x4 rs4 re4 rw k4 => hd' W σ φ4 H4 S4 y w vy vw _ rs4 ((ry.mono x3).mono x4) rw k4)⟩
  · unfold RD at rd; exact ⟨false, rd, iteF (k.ok rs3 _ rd_bl)⟩
  · exact k.elim
end
/-- a tuple of the written part whose items are flat -/
def flatVal : D → Value → Prop
  | .non, u => u = .none
  | .bl b, u => u = .bool b
  | .int i, u => ∃ t, u = .int i t
  | .str s, u => ∃ t, u = .str s t
  | _, _ => False
theorem flat_vals : ∀ {ds : List D} {us : List Value}, Paired flatVal ds us → Vals (ds.map toV) us ∧ ds.all flatB = true
  | _, _, .nil => ⟨.nil, rfl⟩
  | d :: ds, _, .cons h t => by
    obtain ⟨a, b⟩ := flat_vals t
    cases d with
    | tup _ => exact h.elim
    | ptr _ => exact h.elim
    | _ => exact ⟨.cons h a, by rw [List.all_cons, b]; rfl⟩
theorem ktup_of {K : PySem.W.Frag} {a : Addr} {ds : List D} {od : Option Addr} {its : Array Value} {n : Nat} {sl : Array (Option Value)} (l : K.lookup a = some ⟨.type "tuple", od, .seq its n, sl⟩) (h : Paired flatVal ds its.toList) (hz : its.size ≤ sizeLine) : KTup K a ds := by
  obtain ⟨v, f⟩ := flat_vals h
  exact ⟨_, fun H => .inr ⟨_, its, n, l, rfl, rfl, hz, v⟩, rfl, f⟩

/-! ### the calculus: more -/
section
variable {α : Type} {S : Store} {ρ : Env} {p : Ps}
theorem Ok_in {x y : D} {P : D → Store → Prop} : Ok (oIn x y S) P = ∃ b, inD x y S = some b ∧ P (.bl b) S := by
  unfold oIn
  cases inD x y S <;> simp [Ok_ok, Ok_bad]
theorem Ok_notIn {x y : D} {P : D → Store → Prop} : Ok (oNotIn x y S) P = ∃ b, inD x y S = some b ∧ P (.bl (!b)) S := by
  unfold oNotIn
  cases inD x y S <;> simp [Ok_ok, Ok_bad]
theorem Ok_mtL {f : D → List D → Store → Res D} {mo : ME} {ms : MA} {P : D → Store → Prop} : Ok (eMtL f mo ms ρ S) P = Ok (mo ρ S) fun o S1 => isLst S1 o = true ∧ Ok (ms ρ S1) fun xs S2 => Ok (f o xs S2) P := by
  unfold eMtL
  rw [Ok_bind]; congr 1; funext o S1
  rw [Ok_if, Ok_bind]
theorem Ok_append {n : Nat} {ys : List D} {d : D} {P : D → Store → Prop} (h : S[n]? = some (.lst ys)) : Ok (fAppend (.ptr n) [d] S) P = (ys.length < sizeLine ∧ P .non (S.set n (.lst (ys ++ [d])))) := by
  unfold fAppend
  simp only [h]
  exact Ok_if
theorem Ok_extend {n m : Nat} {ys zs : List D} {P : D → Store → Prop} (h : S[n]? = some (.lst ys)) (h2 : S[m]? = some (.lst zs)) : Ok (fExtend (.ptr n) [.ptr m] S) P = (ys.length + zs.length ≤ sizeLine ∧ P .non (S.set n (.lst (ys ++ zs)))) := by
  unfold fExtend
  simp only [h, h2]
  exact Ok_if
theorem Ok_enum {ms : MA} {P : ItD → Store → Prop} : Ok (iEnumM ms ρ S) P = Ok (ms ρ S) fun xs S1 => ∃ it, (match xs with
  | [.tup ds] => it = ⟨enumD 0 ds, fun _ => True⟩
  | [.ptr n] => ∃ ds, (S1[n]? = some (.lst ds) ∧ it = ⟨enumD 0 ds, fun S => S[n]? = some (.lst ds)⟩) ∨ (S1[n]? = some (.rol ds) ∧ it = ⟨enumD 0 ds, fun S => S[n]? = some (.rol ds)⟩)
  | _ => False) ∧ P it S1 := by
  unfold iEnumM
  rw [Ok_bind]
  congr 1
  funext xs S1
  split
  · simp [Ok_ok]
  · rename_i n
    cases h : S1[n]? with
    | none => simp [Ok_bad, h]
    | some c =>
      cases c with
      | lst ys => simp [Ok_ok, h]
      | rol ys => simp [Ok_ok, h]
      | dct ys => simp [Ok_bad, h]
      | dcx ys => simp [Ok_bad, h]
      | rox ys => simp [Ok_bad, h]
  · simp [Ok_bad]
theorem OkS_asg {me : ME} {g : MG} : OkS (sAsg me g ρ S) p = Ok (me ρ S) fun d S1 => OkS (g d ρ S1) ⟨p.nx, fun _ _ => False, fun _ _ => False, fun _ _ => False⟩ := by
  unfold sAsg
  rw [OkS_ofE]; congr 1; funext d S1
  cases g d ρ S1 <;> rfl
theorem OkS_gNm {i : Nat} {d : D} : OkS (gNm i d ρ S) p = p.nx (ρ.set i (some d)) S := rfl
theorem OkS_gTp {n : Nat} {gs : MGs} {xs : List D} (h : xs.length = n) : OkS (gTp n gs (.tup xs) ρ S) p = OkS (gs xs ρ S) p := by
  unfold gTp
  simp [h]
theorem OkS_gTpL {n m : Nat} {gs : MGs} {xs : List D} (hS : S[m]? = some (.lst xs)) (h : xs.length = n) : OkS (gTp n gs (.ptr m) ρ S) p = OkS (gs xs ρ S) p := by
  unfold gTp
  simp [hS, h]
theorem OkS_gNil : OkS (gNilM [] ρ S) p = p.nx ρ S := rfl
open Classical in
/-- a walk with any target -/
theorem forM_invG {chk : Store → Prop} {g : MG} {body : MS} (I : List D → Env → Store → Prop)
    (step : ∀ x xs ρ S, I (x :: xs) ρ S → OkS (g x ρ S) ⟨fun ρ1 S1 => OkS (body ρ1 S1) ⟨fun ρ S => chk S ∧ I xs ρ S, p.rt, fun ρ S => chk S ∧ I xs ρ S, p.nx⟩, fun _ _ => False, fun _ _ => False, fun _ _ => False⟩)
    (fin : ∀ ρ S, I [] ρ S → p.nx ρ S) : ∀ (xs : List D) (ρ : Env) (S : Store), I xs ρ S → OkS (forM chk g body xs ρ S) p
  | [], ρ, S, h => fin ρ S h
  | x :: xs, ρ, S, h => by
    have st := step x xs ρ S h
    unfold forM
    cases hg : g x ρ S with
    | next ρ1 S1 =>
      rw [hg] at st
      have st : OkS (body ρ1 S1) _ := st
      show OkS (match body ρ1 S1 with
        | .next ρ2 S2 => if chk S2 then forM chk g body xs ρ2 S2 else .bad
        | .cont ρ2 S2 => if chk S2 then forM chk g body xs ρ2 S2 else .bad
        | .brk ρ2 S2 => .next ρ2 S2
        | r => r) p
      cases hb : body ρ1 S1 with
      | next ρ2 S2 => rw [hb] at st; simp only [if_pos st.1]; exact forM_invG I step fin xs ρ2 S2 st.2
      | cont ρ2 S2 => rw [hb] at st; simp only [if_pos st.1]; exact forM_invG I step fin xs ρ2 S2 st.2
      | brk ρ2 S2 => rw [hb] at st; exact st
      | ret d S2 => rw [hb] at st; exact st
      | exn a b c => rw [hb] at st; exact st
      | bad => rw [hb] at st; exact st
    | ret d S1 => rw [hg] at st; exact st.elim
    | cont d S1 => rw [hg] at st; exact st.elim
    | brk d S1 => rw [hg] at st; exact st.elim
    | exn a b c => rw [hg] at st; exact st.elim
    | bad => rw [hg] at st; exact st.elim
end
end RL

set_option maxHeartbeats 4000000
namespace RL
open PySem PySem.Spec PyProof.Rows L2


/-! ### is_whole, is_group -/
def isWholeB (lo hi : Int) : D → Bool
  | .int i => decide (lo ≤ i) && decide (i ≤ hi)
  | _ => false
theorem whole_goal {S : Store} {v : D} {lo hi : Int} {P : D → Store → Prop} (hk : ∃ k, kindD S v = some k) (h : P (.bl (isWholeB lo hi v)) S) :
    Ok (eAndV (eIsi "int" (eVar 0)) (eAndV (eNotV (eIsi "bool" (eVar 0))) (eChain oLe oLe (eVar 1) (eVar 0) (eVar 2))) [some v, some (D.int lo), some (D.int hi)] S) P := by
  obtain ⟨k, hk⟩ := hk
  simp only [Ok_ok, Ok_bind, Ok_tOf, Ok_tNot, Ok_tAnd, Ok_tOr, Ok_eIf, Ok_andV, Ok_orV, Ok_notV, Ok_chain, Ok_addI, Ok_subI, Ok_mulI, Ok_modI, Ok_divI, Ok_powI, Ok_ltI, Ok_leI, Ok_gtI, Ok_geI, Ok_addT, Ok_intI, Ok_intB, Ok_boolI, Ok_abs, Ok_lenT, Ok_tupleT, Ok_listT, Ok_ixT, Ok_slT, Ok_revT, Ok_dict0, Ok_dict1C, Ok_iAny, Ok_rngM1, Ok_rngM2, OkS_asgSub, Ok_enum, Ok_mtL, Ok_notIn, Ok_in, Ok_neS, Ok_eqS, OkS_seq, OkS_pass, OkS_ret, OkS_retN, OkS_drop, OkS_set, OkS_par, OkS_if, Ok_nil, Ok_cons, Ok_bin, Ok_eC, Ok_call, Ok_fn1, Ok_fnK, Ok_tup, Ok_lst, Ok_isi, Ok_sl, Ok_pNone, Ok_pSome, Ok_neg, Ok_rev, Ok_rg1, OkS_for, Ok_comp, Ok_var, Ok_body, List.map_cons, List.map_nil, List.replicate_succ, List.replicate_zero, List.length_cons, List.length_nil, Nat.reduceSub, Nat.reduceAdd, List.cons_append, List.nil_append, List.getElem?_cons_succ, List.getElem?_cons_zero, List.set_cons_succ, List.set_cons_zero, Option.some.injEq, exists_eq_left', exists_eq_left, D.bl.injEq, D.int.injEq, List.cons.injEq, true_and, and_true, pickL, wipeE, List.map, Ok_if, ex2]
  refine ⟨k, hk, ?_⟩
  cases v with
  | int i =>
    cases hk
    rw [if_pos (by decide)]
    refine ⟨_, rfl, ?_⟩
    rw [if_pos (by decide)]
    simp only [Ok_ok, Ok_bind, Ok_tOf, Ok_tNot, Ok_tAnd, Ok_tOr, Ok_eIf, Ok_andV, Ok_orV, Ok_notV, Ok_chain, Ok_addI, Ok_subI, Ok_mulI, Ok_modI, Ok_divI, Ok_powI, Ok_ltI, Ok_leI, Ok_gtI, Ok_geI, Ok_addT, Ok_intI, Ok_intB, Ok_boolI, Ok_abs, Ok_lenT, Ok_tupleT, Ok_listT, Ok_ixT, Ok_slT, Ok_revT, Ok_dict0, Ok_dict1C, Ok_iAny, Ok_rngM1, Ok_rngM2, OkS_asgSub, Ok_enum, Ok_mtL, Ok_notIn, Ok_in, Ok_neS, Ok_eqS, OkS_seq, OkS_pass, OkS_ret, OkS_retN, OkS_drop, OkS_set, OkS_par, OkS_if, Ok_nil, Ok_cons, Ok_bin, Ok_eC, Ok_call, Ok_fn1, Ok_fnK, Ok_tup, Ok_lst, Ok_isi, Ok_sl, Ok_pNone, Ok_pSome, Ok_neg, Ok_rev, Ok_rg1, OkS_for, Ok_comp, Ok_var, Ok_body, List.map_cons, List.map_nil, List.replicate_succ, List.replicate_zero, List.length_cons, List.length_nil, Nat.reduceSub, Nat.reduceAdd, List.cons_append, List.nil_append, List.getElem?_cons_succ, List.getElem?_cons_zero, List.set_cons_succ, List.set_cons_zero, Option.some.injEq, exists_eq_left', exists_eq_left, D.bl.injEq, D.int.injEq, List.cons.injEq, true_and, and_true, pickL, wipeE, List.map, Ok_if, ex2]
    by_cases h1 : lo ≤ i
    · simp only [h1, decide_true, if_true]
      have e : isWholeB lo hi (.int i) = decide (i ≤ hi) := by simp [isWholeB, h1]
      rw [e] at h
      exact h
    · simp only [h1, decide_false, Bool.false_eq_true, if_false]
      have e : isWholeB lo hi (.int i) = false := by simp [isWholeB, h1]
      rw [e] at h
      exact h
  | bl b =>
    cases hk
    rw [if_pos (by decide)]
    refine ⟨_, rfl, ?_⟩
    rw [if_neg (by decide)]
    exact h
  | non => cases hk; rw [if_neg (by decide)]; exact h
  | str b => cases hk; rw [if_neg (by decide)]; exact h
  | tup b => cases hk; rw [if_neg (by decide)]; exact h
  | ptr n =>
    have hz : isiB k "int" = false := by
      have hk : kindC S[n]? = some k := hk
      unfold kindC at hk
      split at hk <;> cases hk <;> decide
    rw [hz, if_neg (by decide)]
    exact h
def asc (h : Int) : Int → List D → Bool
  | _, [] => true
  | l, x :: xs => match x with
    | .int i => if l ≤ i ∧ i ≤ h - 1 then asc h (i + 1) xs else false
    | _ => false
def isGroupB (h : Int) : D → Bool
  | .tup ds => asc h 0 ds
  | _ => false
/-- a value of a kind that is known, whatever the store -/
def Kn (S : Store) (v : D) : Prop := (∃ k, kindD S v = some k) ∧ ∀ ds, v = .tup ds → ∀ x ∈ ds, ∀ S', ∃ k, kindD S' x = some k
/-! ### the law's own look -/
def inc : List Int → Bool
  | a :: b :: r => decide (a < b) && inc (b :: r)
  | _ => true
theorem inc_iff : ∀ ns : List Int, inc ns = true ↔ ∀ i, i + 1 < ns.length → ns.getD i 0 < ns.getD (i + 1) 0
  | [] => by simp [inc]
  | [a] => by simp [inc]
  | a :: b :: r => by
    have ih := inc_iff (b :: r)
    unfold inc
    rw [Bool.and_eq_true, ih, decide_eq_true_eq]
    constructor
    · rintro ⟨h1, h2⟩ i hi
      cases i with
      | zero => exact h1
      | succ i => exact h2 i (by simpa using hi)
    · intro h
      refine ⟨h 0 (by simp), fun i hi => h (i + 1) (by simpa using hi)⟩
theorem asc_ints (h : Int) : ∀ (ns : List Int) (l : Int), (∀ n ∈ ns, n ≤ h - 1) → asc h l (ns.map D.int) = (inc ns && decide (∀ n, ns.head? = some n → l ≤ n))
  | [], l, _ => by simp [asc, inc]
  | [a], l, hh => by
    have := hh a (by simp)
    simp [asc, inc, this]
  | a :: b :: r, l, hh => by
    have ih := asc_ints h (b :: r) (a + 1) fun n hn => hh n (List.mem_cons_of_mem _ hn)
    have h1 := hh a (by simp)
    rw [List.map_cons]
    unfold asc
    simp only [h1, and_true]
    rw [ih, show inc (a :: b :: r) = (decide (a < b) && inc (b :: r)) from rfl]
    by_cases h2 : l ≤ a
    · simp only [h2, if_true, List.head?_cons, Option.some.injEq, forall_eq']
      by_cases h3 : a < b
      · have : a + 1 ≤ b := by omega
        simp [h3, this]
      · have : ¬ a + 1 ≤ b := by omega
        simp [h3, this]
    · simp only [h2, if_false, List.head?_cons, Option.some.injEq, forall_eq']
      simp
theorem asc_whole (h : Int) : ∀ (ds : List D) (l : Int), 0 ≤ l → asc h l ds = true → ∀ x ∈ ds, isWholeB 0 (h - 1) x = true
  | [], _, _, _, _, hx => by cases hx
  | d :: ds, l, hl, ha, x, hx => by
    unfold asc at ha
    cases d with
    | int i =>
      by_cases hc : l ≤ i ∧ i ≤ h - 1
      · simp only [hc, and_self, if_true] at ha
        rcases List.mem_cons.mp hx with rfl | hx
        · simp only [isWholeB, Bool.and_eq_true, decide_eq_true_eq]; omega
        · exact asc_whole h ds (i + 1) (by omega) ha x hx
      · simp only [hc, if_false] at ha
        cases ha
    | _ => cases ha
theorem wholes_ints {lo hi : Int} : ∀ ds : List D, (∀ x ∈ ds, isWholeB lo hi x = true) → ∃ ns : List Int, ds = ns.map D.int ∧ ∀ n ∈ ns, lo ≤ n ∧ n ≤ hi
  | [], _ => ⟨[], rfl, fun _ h => by cases h⟩
  | d :: ds, h => by
    obtain ⟨ns, rfl, hn⟩ := wholes_ints ds fun x hx => h x (List.mem_cons_of_mem _ hx)
    have hd := h d List.mem_cons_self
    cases d with
    | int i =>
      simp only [isWholeB, Bool.and_eq_true, decide_eq_true_eq] at hd
      refine ⟨i :: ns, rfl, fun n hm => ?_⟩
      rcases List.mem_cons.mp hm with rfl | hm
      · exact hd
      · exact hn n hm
    | _ => cases hd
theorem ones_of {l : List D} : ∃ ns : List Int, l.map (fun _ => D.int 1) = ns.map D.int ∧ (ns = [] ↔ l = []) := ⟨l.map fun _ => 1, by rw [List.map_map]; rfl, by simp⟩
/-! ### parts -/
def tupI (l : List Int) : D := .tup (l.map D.int)
def goG (found : List (List Int)) : List Int → List (List Int)
  | [] => found
  | n :: ns => goG (found ++ found.map (· ++ [n])) ns
def IsSeq (S : Store) (g : D) (ns : List Int) : Prop := g = .tup (ns.map D.int) ∨ ∃ n, g = .ptr n ∧ S[n]? = some (.lst (ns.map D.int))
theorem IsSeq.app {S : Store} {g : D} {ns : List Int} (h : IsSeq S g ns) (c : Cell) : IsSeq (S ++ [c]) g ns := by
  rcases h with h | ⟨n, h, e⟩
  · exact .inl h
  · exact .inr ⟨n, h, (Gr.app (q := fun _ => False) _).get e fun z => z⟩
noncomputable abbrev partsBody : MS := sSeq (sSet 1 (eBin oAdd (eVar 1) (eComp (iAnyM (eVar 1)) (bNm 3) [3] tYesM (eBin oAdd (eVar 3) (eTup (aCons (eVar 2) aNil)))))) sPass
theorem big1000 : (100000 : Nat) ≤ sizeLine := by decide
theorem parts_loop {g : D} {ns : List Int} {S : Store} {m : Nat} {p : Ps} (hg : IsSeq S g ns) (hm : S[m]? = some (.lst [tupI []])) (hn : ns.length ≤ 10)
    (hr : ∀ S' m o o', Gr0 S S' → S'[m]? = some (.lst ((goG [[]] ns).map tupI)) → p.nx [some g, some (.ptr m), o, o'] S') :
    OkS (sFor (iAnyM (eVar 0)) (gNm 2) partsBody [some g, some (.ptr m), none, none] S) p := by
  have bg := big1000
  have loop : ∀ (chk : Store → Prop), (∀ S', Gr0 S S' → chk S') → OkS (forM chk (gNm 2) partsBody (ns.map D.int) [some g, some (.ptr m), none, none] S) p := by
    intro chk hc
    refine forM_inv (fun xs ρ S' => ∃ rs found m o o', xs = rs.map D.int ∧ ρ = [some g, some (.ptr m), o, o'] ∧ S'[m]? = some (.lst (found.map tupI)) ∧ goG found rs = goG [[]] ns ∧ Gr0 S S' ∧
      found.length * 2 ^ rs.length ≤ 2 ^ 10 ∧ rs.length ≤ 10 ∧ ∀ l ∈ found, l.length + rs.length ≤ 10) ?_ ?_ _ _ _ ⟨ns, [[]], m, none, none, rfl, rfl, hm, rfl, Gr.refl, ?_, hn, ?_⟩
    · rintro x xs ρ S' ⟨rs, found, m, o, o', e, rfl, hS, hG, gr, hl, hl2, hl3⟩
      cases rs with
      | nil => cases e
      | cons n rs =>
        rw [List.map_cons] at e
        cases e
        rw [List.length_cons, Nat.pow_succ] at hl
        rw [List.length_cons] at hl2
        have hpos : 1 ≤ 2 ^ rs.length := Nat.one_le_two_pow
        have hfl : found.length ≤ 2 ^ 10 := by
          have : found.length * 1 ≤ found.length * (2 ^ rs.length * 2) := Nat.mul_le_mul_left _ (by omega)
          omega
        have p10 : (2 : Nat) ^ 10 = 1024 := rfl
        simp only [Ok_ok, Ok_bind, Ok_tOf, Ok_tNot, Ok_tAnd, Ok_tOr, Ok_eIf, Ok_andV, Ok_orV, Ok_notV, Ok_chain, Ok_addI, Ok_subI, Ok_mulI, Ok_modI, Ok_divI, Ok_powI, Ok_ltI, Ok_leI, Ok_gtI, Ok_geI, Ok_addT, Ok_intI, Ok_intB, Ok_boolI, Ok_abs, Ok_lenT, Ok_tupleT, Ok_listT, Ok_ixT, Ok_slT, Ok_revT, Ok_dict0, Ok_dict1C, Ok_iAny, Ok_rngM1, Ok_rngM2, OkS_asgSub, Ok_enum, Ok_mtL, Ok_notIn, Ok_in, Ok_neS, Ok_eqS, OkS_seq, OkS_pass, OkS_ret, OkS_retN, OkS_drop, OkS_set, OkS_par, OkS_if, Ok_nil, Ok_cons, Ok_bin, Ok_eC, Ok_call, Ok_fn1, Ok_fnK, Ok_tup, Ok_lst, Ok_isi, Ok_sl, Ok_pNone, Ok_pSome, Ok_neg, Ok_rev, Ok_rg1, OkS_for, Ok_comp, Ok_var, Ok_body, List.map_cons, List.map_nil, List.replicate_succ, List.replicate_zero, List.length_cons, List.length_nil, Nat.reduceSub, Nat.reduceAdd, List.cons_append, List.nil_append, List.getElem?_cons_succ, List.getElem?_cons_zero, List.set_cons_succ, List.set_cons_zero, Option.some.injEq, exists_eq_left', exists_eq_left, D.bl.injEq, D.int.injEq, List.cons.injEq, true_and, and_true, pickL, wipeE, List.map, Ok_if, ex2]
        refine ⟨_, ⟨_, .inl ⟨hS, rfl⟩⟩, (Gr.app (q := fun _ => False) _).get hS (fun z => z), ?_⟩
        refine (compT_fm (S0 := S') (fun _ => true) (fun d => match d with | .tup l => .tup (l ++ [.int n]) | d => d) (fun acc => (Gr.app (q := fun _ => False) _).get hS (fun z => z)) _ [] (by simp; omega) (fun x hm acc => ?_) (fun x hm _ acc => ?_)).mono ?_
        · exact ⟨rfl, rfl⟩
        · obtain ⟨l, hl4, rfl⟩ := List.mem_map.mp hm
          have := hl3 l hl4
          simp only [Ok_ok, Ok_bind, Ok_tOf, Ok_tNot, Ok_tAnd, Ok_tOr, Ok_eIf, Ok_andV, Ok_orV, Ok_notV, Ok_chain, Ok_addI, Ok_subI, Ok_mulI, Ok_modI, Ok_divI, Ok_powI, Ok_ltI, Ok_leI, Ok_gtI, Ok_geI, Ok_addT, Ok_intI, Ok_intB, Ok_boolI, Ok_abs, Ok_lenT, Ok_tupleT, Ok_listT, Ok_ixT, Ok_slT, Ok_revT, Ok_dict0, Ok_dict1C, Ok_iAny, Ok_rngM1, Ok_rngM2, OkS_asgSub, Ok_enum, Ok_mtL, Ok_notIn, Ok_in, Ok_neS, Ok_eqS, OkS_seq, OkS_pass, OkS_ret, OkS_retN, OkS_drop, OkS_set, OkS_par, OkS_if, Ok_nil, Ok_cons, Ok_bin, Ok_eC, Ok_call, Ok_fn1, Ok_fnK, Ok_tup, Ok_lst, Ok_isi, Ok_sl, Ok_pNone, Ok_pSome, Ok_neg, Ok_rev, Ok_rg1, OkS_for, Ok_comp, Ok_var, Ok_body, List.map_cons, List.map_nil, List.replicate_succ, List.replicate_zero, List.length_cons, List.length_nil, Nat.reduceSub, Nat.reduceAdd, List.cons_append, List.nil_append, List.getElem?_cons_succ, List.getElem?_cons_zero, List.set_cons_succ, List.set_cons_zero, Option.some.injEq, exists_eq_left', exists_eq_left, D.bl.injEq, D.int.injEq, List.cons.injEq, true_and, and_true, pickL, wipeE, List.map, Ok_if, ex2, tupI, List.length_map]
          rw [List.length_cons] at this
          exact ⟨by omega, by omega⟩
        rintro _ S2 rfl
        have e1 : ([] ++ ((found.map tupI).filter fun _ => true).map fun d => match d with | .tup l => D.tup (l ++ [.int n]) | d => d) = (found.map (· ++ [n])).map tupI := by
          rw [List.nil_append, List.filter_eq_self.mpr (fun _ _ => rfl), List.map_map, List.map_map]
          refine List.map_congr_left fun l _ => ?_
          show D.tup (l.map D.int ++ [.int n]) = .tup ((l ++ [n]).map D.int)
          rw [List.map_append]; rfl
        rw [e1, Ok_addL ((Gr.app (q := fun _ => False) _).get hS (fun z => z)) (get_last _ _)]
        refine ⟨by simp only [List.length_map]; omega, hc _ (gr.trans ((Gr.app _).trans (Gr.app _))), rs, found ++ found.map (· ++ [n]), _, _, _, rfl, ⟨rfl, rfl, rfl⟩, ?_, hG, gr.trans ((Gr.app _).trans (Gr.app _)), ?_, by omega, ?_⟩
        · rw [get_last, List.map_append]
        · rw [List.length_append, List.length_map]
          have : (found.length + found.length) * 2 ^ rs.length = found.length * (2 ^ rs.length * 2) := by
            rw [← Nat.mul_two, Nat.mul_assoc, Nat.mul_comm 2]
          omega
        · intro l hl4
          rcases List.mem_append.mp hl4 with h | h
          · have := hl3 l h
            rw [List.length_cons] at this; omega
          · obtain ⟨l', h', rfl⟩ := List.mem_map.mp h
            have := hl3 l' h'
            rw [List.length_cons] at this
            simp; omega
    · rintro ρ S' ⟨rs, found, m, o, o', e, rfl, hS, hG, gr, _⟩
      cases rs with
      | cons n rs => cases e
      | nil =>
        have hG : found = goG [[]] ns := hG
        rw [hG] at hS
        exact hr S' m o o' gr hS
    · show 1 * 2 ^ ns.length ≤ 2 ^ 10
      rw [Nat.one_mul]
      exact Nat.pow_le_pow_right (by decide) hn
    · intro l hl
      rw [List.mem_singleton.mp hl]
      simp; exact hn
  rcases hg with rfl | ⟨n, rfl, hn2⟩
  · simp only [Ok_ok, Ok_bind, Ok_tOf, Ok_tNot, Ok_tAnd, Ok_tOr, Ok_eIf, Ok_andV, Ok_orV, Ok_notV, Ok_chain, Ok_addI, Ok_subI, Ok_mulI, Ok_modI, Ok_divI, Ok_powI, Ok_ltI, Ok_leI, Ok_gtI, Ok_geI, Ok_addT, Ok_intI, Ok_intB, Ok_boolI, Ok_abs, Ok_lenT, Ok_tupleT, Ok_listT, Ok_ixT, Ok_slT, Ok_revT, Ok_dict0, Ok_dict1C, Ok_iAny, Ok_rngM1, Ok_rngM2, OkS_asgSub, Ok_enum, Ok_mtL, Ok_notIn, Ok_in, Ok_neS, Ok_eqS, OkS_seq, OkS_pass, OkS_ret, OkS_retN, OkS_drop, OkS_set, OkS_par, OkS_if, Ok_nil, Ok_cons, Ok_bin, Ok_eC, Ok_call, Ok_fn1, Ok_fnK, Ok_tup, Ok_lst, Ok_isi, Ok_sl, Ok_pNone, Ok_pSome, Ok_neg, Ok_rev, Ok_rg1, OkS_for, Ok_comp, Ok_var, Ok_body, List.map_cons, List.map_nil, List.replicate_succ, List.replicate_zero, List.length_cons, List.length_nil, Nat.reduceSub, Nat.reduceAdd, List.cons_append, List.nil_append, List.getElem?_cons_succ, List.getElem?_cons_zero, List.set_cons_succ, List.set_cons_zero, Option.some.injEq, exists_eq_left', exists_eq_left, D.bl.injEq, D.int.injEq, List.cons.injEq, true_and, and_true, pickL, wipeE, List.map, Ok_if, ex2]
    exact loop _ fun _ _ => trivial
  · simp only [Ok_ok, Ok_bind, Ok_tOf, Ok_tNot, Ok_tAnd, Ok_tOr, Ok_eIf, Ok_andV, Ok_orV, Ok_notV, Ok_chain, Ok_addI, Ok_subI, Ok_mulI, Ok_modI, Ok_divI, Ok_powI, Ok_ltI, Ok_leI, Ok_gtI, Ok_geI, Ok_addT, Ok_intI, Ok_intB, Ok_boolI, Ok_abs, Ok_lenT, Ok_tupleT, Ok_listT, Ok_ixT, Ok_slT, Ok_revT, Ok_dict0, Ok_dict1C, Ok_iAny, Ok_rngM1, Ok_rngM2, OkS_asgSub, Ok_enum, Ok_mtL, Ok_notIn, Ok_in, Ok_neS, Ok_eqS, OkS_seq, OkS_pass, OkS_ret, OkS_retN, OkS_drop, OkS_set, OkS_par, OkS_if, Ok_nil, Ok_cons, Ok_bin, Ok_eC, Ok_call, Ok_fn1, Ok_fnK, Ok_tup, Ok_lst, Ok_isi, Ok_sl, Ok_pNone, Ok_pSome, Ok_neg, Ok_rev, Ok_rg1, OkS_for, Ok_comp, Ok_var, Ok_body, List.map_cons, List.map_nil, List.replicate_succ, List.replicate_zero, List.length_cons, List.length_nil, Nat.reduceSub, Nat.reduceAdd, List.cons_append, List.nil_append, List.getElem?_cons_succ, List.getElem?_cons_zero, List.set_cons_succ, List.set_cons_zero, Option.some.injEq, exists_eq_left', exists_eq_left, D.bl.injEq, D.int.injEq, List.cons.injEq, true_and, and_true, pickL, wipeE, List.map, Ok_if, ex2]
    exact ⟨_, ⟨_, .inl ⟨hn2, rfl⟩⟩, hn2, loop _ fun S' gr => gr.get hn2 fun z => z⟩

theorem deep_tupI (S : Store) (k : Nat) (l : List Int) : deep S (k + 2) (tupI l) = some (.tuple (l.map PyData.int)) := deep_intsT S k l
theorem deep_tupsO (S : Store) (k : Nat) (ls : List (List Int)) : mapO (deep S (k + 2)) (ls.map tupI) = some (ls.map fun l => .tuple (l.map PyData.int)) := mapO_map fun l _ => deep_tupI S k l
theorem alike_ints : ∀ a b : List Int, PySem.W.alikeAll (a.map PyData.int) (b.map PyData.int) = true
  | [], _ => rfl
  | _ :: _, [] => rfl
  | x :: a, y :: b => by
    rw [List.map_cons, List.map_cons]
    unfold PySem.W.alikeAll
    rw [alike_ints a b]
    rfl
theorem okSort_tups (ls : List (List Int)) : okSort (ls.map fun l => .tuple (l.map PyData.int)) = true := by
  unfold okSort
  rw [Bool.and_eq_true]
  constructor
  · rw [List.all_eq_true]
    intro p hp
    obtain ⟨a, _, rfl⟩ := List.mem_map.mp hp
    rw [List.all_eq_true]
    intro q hq
    obtain ⟨b, _, rfl⟩ := List.mem_map.mp hq
    unfold PySem.W.alike
    exact alike_ints a b
  · rw [List.all_eq_true]
    intro p hp
    obtain ⟨a, _, rfl⟩ := List.mem_map.mp hp
    simp only [PyData.depth, depth_ints, PyData.canLay0, canLay_ints]
    decide
def leI (a b : List Int) : Bool := leD [] (tupI a) (tupI b)
def sortI (ls : List (List Int)) : List (List Int) := ls.mergeSort leI
theorem sort_tups (S : Store) (ls : List (List Int)) : (ls.map tupI).mergeSort (leD S) = (sortI ls).map tupI := by
  unfold sortI
  refine (List.map_mergeSort fun a _ b _ => ?_).symm
  have d : ∀ (S : Store) (l : List Int), shownD S (tupI l) = .tuple (l.map PyData.int) := fun S l => by
    unfold shownD
    rw [show deep S deepLine (tupI l) = _ from deep_tupI S 38 l]
    rfl
  unfold leI leD W.sortLe
  simp only [d]
theorem Ok_sortT {n : Nat} {S : Store} {ls : List (List Int)} {P : D → Store → Prop} (h : S[n]? = some (.lst (ls.map tupI))) (hP : P (.ptr S.length) (S ++ [.lst ((sortI ls).map tupI)])) : Ok (fSorted [.ptr n] S) P := by
  unfold fSorted
  simp only [h]
  unfold sortD
  have e : mapO (deep S deepLine) (ls.map tupI) = some (ls.map fun l => .tuple (l.map PyData.int)) := deep_tupsO S 38 ls
  rw [e]
  simp only [okSort_tups, if_true]
  rw [sort_tups]
  exact hP
/-- all parts, ascending -/
def partsI (ns : List Int) : List (List Int) := sortI (goG [[]] ns)
theorem range_ints (n : Nat) : rangeD 0 n = ((List.range n).map fun i => ((i : Nat) : Int)).map D.int := by
  unfold rangeD
  rw [List.map_map]
  refine List.map_congr_left fun i _ => ?_
  show D.int (0 + (i : Int)) = .int i
  rw [Int.zero_add]
def upto (n : Nat) : List Int := (List.range n).map fun i => ((i : Nat) : Int)
theorem upto_len (n : Nat) : (upto n).length = n := by unfold upto; simp
/-! ### the deck -/
abbrev bits := Builtin.Int.intBits
theorem bits64 {i : Int} (h1 : -(2 ^ 64) < i) (h2 : i < 2 ^ 64) : bits i ≤ 64 := intBits_le_64 h1 h2
def DeckOk (S : Store) (p : Nat) (t : Int) : Prop := ∃ a b c : Int, S[p]? = some (.lst [.int a, .int b, .int c]) ∧ bits a ≤ 2000000 ∧ 0 ≤ b ∧ b < 2 ^ 61 ∧ 0 ≤ c ∧ c ≤ t
theorem cut63 (xs : List D) : ∃ k, RL.cutD xs none (some 63) = xs.take k ∧ (xs.take k).length ≤ 63 := by
  refine ⟨min 63 xs.length, ?_, by rw [List.length_take]; omega⟩
  unfold RL.cutD
  rw [HT.sIx_none, show HT.sIx xs.length xs.length (some 63) = min 63 xs.length from HT.sIx_nat xs.length xs.length 63, Nat.sub_zero, List.drop_zero]
theorem put_deck {S : Store} {p : Nat} {xs : List D} {k : Int} {j : Nat} {d : D} (h : S[p]? = some (.lst xs)) (hk : ixN xs.length k = some j) : putL (.ptr p) (.int k) d S = some (S.set p (.lst (xs.set j d))) := by
  unfold putL
  simp only [h, hk]
  rfl
theorem get_put {S : Store} {p : Nat} {c d : Cell} (h : S[p]? = some c) : (S.set p d)[p]? = some d := by
  rw [List.getElem?_set_self (lt_of_get h)]
theorem mul_ok {a b : Int} {m n : Nat} (h1 : bits a ≤ m) (h2 : bits b ≤ n) (h : m + n ≤ 134217728) : (Builtin.Int.intBits a : Int) + (Builtin.Int.intBits b : Int) ≤ 134217728 := by
  have h1 : Builtin.Int.intBits a ≤ m := h1
  have h2 : Builtin.Int.intBits b ≤ n := h2
  revert h1 h2
  generalize Builtin.Int.intBits a = x
  generalize Builtin.Int.intBits b = y
  intro h1 h2
  omega
theorem qa {l : Nat} (h : l + 1 ≤ 63) : 1048576 + 8 * (63 - (l + 1)) + 6 ≤ 134217728 := by omega
theorem qb {l : Nat} (h : l + 1 ≤ 63) : 1048576 + 8 * (63 - (l + 1)) + 8 ≤ 1048576 + 8 * (63 - l) := by omega
theorem qc {l : Nat} (h : l + 1 ≤ 63) : l ≤ 63 := by omega
theorem qd {l : Nat} (h : l + 1 ≤ 63) : 1048576 + 8 * (63 - (l + 1)) ≤ 1048576 + 8 * (63 - l) := by omega
theorem qe {l : Nat} : 1048576 + 8 * (63 - l) ≤ 2000000 := by omega
theorem qf (l : Nat) : 0 ≤ 12752 + 41 * (l : Int) := by omega
theorem qg {l : Nat} (h : l ≤ 63) : 12752 + 41 * (l : Int) < 2 ^ 61 := by omega
theorem step_bits {great z : Int} {m : Nat} (h1 : bits great ≤ m) (hm : 1048576 ≤ m) (hz : bits z ≤ 1048576) : bits (great * 47 + z - 1000000000000000000) ≤ m + 8 := by
  refine Nat.le_trans (intBits_sub_le (intBits_add_le (intBits_mul_le h1 (show bits 47 ≤ 6 by decide +kernel)) hz) (bits64 (by decide) (by decide))) ?_
  have : ∀ m : Nat, 1048576 ≤ m → max (max (m + 6) 1048576 + 1) 64 + 1 ≤ m + 8 := fun m h => by omega
  exact this m hm
/-! ### values that the law shows -/
def AtomD : D → Prop
  | .non => True
  | .bl _ => True
  | .int i => i.natAbs < 2 ^ 40
  | .str s => s = "1"
  | _ => False
def flD : D → PyData
  | .non => .none
  | .bl b => .bool b
  | .int i => .int i
  | .str s => .str s
  | _ => .none
structure At (p : PyData) : Prop where
  sh : p.showable = true
  lv : p.leavesShort 100 = true
  dp : p.depth = 0
  wt : p.weight ≤ 50
theorem at_int {i : Int} (h : i.natAbs < 2 ^ 40) : At (.int i) := by
  have hl : i.natAbs.log2 ≤ 40 := by
    by_cases h0 : i.natAbs = 0
    · rw [h0]; decide
    · exact Nat.le_of_lt ((Nat.log2_lt h0).mpr h)
  refine ⟨?_, ?_, rfl, ?_⟩
  · simp only [PyData.showable, decide_eq_true_eq]; omega
  · simp only [PyData.leavesShort, decide_eq_true_eq]
    have := PySem.int_text_length_le10 (a := i) (k := 13) (by decide) (Nat.lt_trans h (by decide))
    show (Str.ofString (toString i)).length ≤ 100
    rw [PySem.ofString_length]
    omega
  · simp only [PyData.weight]
    split <;> omega
theorem atom_at {d : D} (h : AtomD d) : At (flD d) := by
  cases d with
  | non => exact ⟨rfl, rfl, rfl, by decide⟩
  | bl b => exact ⟨rfl, rfl, rfl, by show 0 ≤ 50; decide⟩
  | int i => exact at_int h
  | str s =>
    have h : s = "1" := h
    subst h
    exact ⟨rfl, by decide +kernel, rfl, by decide +kernel⟩
  | tup _ => exact h.elim
  | ptr _ => exact h.elim
theorem atom_deep {d : D} (h : AtomD d) (S : Store) (k : Nat) : deep S (k + 1) d = some (flD d) := by
  cases d with
  | tup _ => exact h.elim
  | ptr _ => exact h.elim
  | _ => unfold deep; rfl
theorem ats_of : ∀ {ps : List PyData}, (∀ p ∈ ps, At p) → PyData.showableAll ps = true ∧ PyData.leavesShortAll 100 ps = true ∧ PyData.depthAll ps = 0 ∧ PyData.weightAll ps ≤ 51 * ps.length
  | [], _ => ⟨rfl, rfl, rfl, Nat.zero_le _⟩
  | p :: ps, h => by
    obtain ⟨a, b, c, d⟩ := ats_of fun q hq => h q (List.mem_cons_of_mem _ hq)
    have hp := h p List.mem_cons_self
    unfold PyData.showableAll PyData.leavesShortAll PyData.depthAll PyData.weightAll
    rw [a, b, c, hp.sh, hp.lv, hp.dp, List.length_cons]
    exact ⟨rfl, rfl, rfl, by have := hp.wt; omega⟩
theorem tame_tup {ps : List PyData} (h : ∀ p ∈ ps, At p) (hl : ps.length ≤ 100) : Tame (.tuple ps) := by
  obtain ⟨a, b, c, d⟩ := ats_of h
  refine ⟨?_, ?_, ?_, ?_⟩
  · unfold PyData.showable; exact a
  · unfold PyData.leavesShort; exact b
  · unfold PyData.depth; rw [c]; decide
  · unfold PyData.weight; omega
theorem tame_lst {ps : List PyData} (h : ∀ p ∈ ps, At p) (hl : ps.length ≤ 100) : Tame (.list ps) := by
  obtain ⟨a, b, c, d⟩ := ats_of h
  refine ⟨?_, ?_, ?_, ?_⟩
  · unfold PyData.showable; exact a
  · unfold PyData.leavesShort; exact b
  · unfold PyData.depth; rw [c]; decide
  · unfold PyData.weight; omega
def Vl (p : Nat → Prop) (S : Store) (d : D) : Prop := ∃ q, Tame q ∧ ((∀ S', deep S' deepLine d = some q) ∨ ∃ n, d = .ptr n ∧ ¬ p n ∧ n < S.length ∧ ∀ S' : Store, S'[n]? = S[n]? → deep S' deepLine d = some q)
theorem Vl.mono {p : Nat → Prop} {S S' : Store} {d : D} (h : Vl p S d) (g : Gr p S S') : Vl p S' d := by
  obtain ⟨q, t, h | ⟨n, rfl, np, nl, h⟩⟩ := h
  · exact ⟨q, t, .inl h⟩
  · exact ⟨q, t, .inr ⟨n, rfl, np, Nat.lt_of_lt_of_le nl g.len, fun S2 e => h S2 (e.trans (g.same n nl np))⟩⟩
theorem Vl.deep {p : Nat → Prop} {S : Store} {d : D} (h : Vl p S d) : ∃ q, Tame q ∧ RL.deep S deepLine d = some q := by
  obtain ⟨q, t, h | ⟨n, rfl, np, nl, h⟩⟩ := h
  · exact ⟨q, t, h S⟩
  · exact ⟨q, t, h S rfl⟩
theorem mapO_mem {α β : Type} {f : α → Option β} : ∀ {l : List α} {r : List β}, mapO f l = some r → ∀ x ∈ l, ∃ y, f x = some y
  | [], _, _, x, hx => by cases hx
  | a :: l, r, h, x, hx => by
    obtain ⟨y, ys, h1, h2, _⟩ := mapO_cons h
    rcases List.mem_cons.mp hx with rfl | hx
    · exact ⟨y, h1⟩
    · exact mapO_mem h2 x hx
theorem mapO_length {α β : Type} {f : α → Option β} : ∀ {l : List α} {r : List β}, mapO f l = some r → r.length = l.length
  | [], r, h => by unfold mapO at h; cases h; rfl
  | a :: l, r, h => by
    obtain ⟨y, ys, h1, h2, rfl⟩ := mapO_cons h
    rw [List.length_cons, List.length_cons, mapO_length h2]
theorem weight_len : ∀ ps : List PyData, ps.length ≤ PyData.weightAll ps
  | [] => Nat.le_refl _
  | p :: ps => by
    have := weight_len ps
    unfold PyData.weightAll
    rw [List.length_cons]; omega
theorem Vl.kn {p : Nat → Prop} {S : Store} {d : D} (h : Vl p S d) : Kn S d ∧ ∀ ds, d = .tup ds → ds.length ≤ 50000 := by
  obtain ⟨q, t, h | ⟨n, rfl, np, nl, h⟩⟩ := h
  · refine ⟨⟨?_, ?_⟩, ?_⟩
    · cases d with
      | ptr n => have := h []; unfold RL.deep at this; simp [deepLine] at this
      | _ => exact ⟨_, rfl⟩
    · rintro ds rfl x hx S'
      have e := h []
      unfold deepLine RL.deep at e
      cases hm : mapO (RL.deep [] 39) ds with
      | none => rw [hm] at e; cases e
      | some ps =>
        obtain ⟨y, hy⟩ := mapO_mem hm x hx
        cases x with
        | ptr n => unfold RL.deep at hy; simp at hy
        | _ => exact ⟨_, rfl⟩
    · rintro ds rfl
      have e := h []
      unfold deepLine RL.deep at e
      cases hm : mapO (RL.deep [] 39) ds with
      | none => rw [hm] at e; cases e
      | some ps =>
        rw [hm] at e
        cases e
        have := t.wt
        unfold PyData.weight at this
        rw [← mapO_length hm]
        exact Nat.le_trans (weight_len ps) this
  · refine ⟨⟨?_, fun ds e => by cases e⟩, fun ds e => by cases e⟩
    have : S[n]? = some S[n] := List.getElem?_eq_getElem nl
    show ∃ k, kindC S[n]? = some k
    rw [this]
    cases e : S[n] with
    | rox ds =>
      have z := h S rfl
      unfold deepLine RL.deep at z
      rw [this, e] at z
      cases z
    | dcx ds =>
      have z := h S rfl
      unfold deepLine RL.deep at z
      rw [this, e] at z
      cases z
    | _ => exact ⟨_, rfl⟩
theorem vl_tup {p : Nat → Prop} {S : Store} {ds : List D} (h : ∀ d ∈ ds, AtomD d) (hl : ds.length ≤ 100) : Vl p S (.tup ds) := by
  refine ⟨.tuple (ds.map flD), tame_tup (fun q hq => ?_) (by rw [List.length_map]; exact hl), .inl fun S' => ?_⟩
  · obtain ⟨d, hd, rfl⟩ := List.mem_map.mp hq
    exact atom_at (h d hd)
  · unfold deepLine RL.deep
    have := mapO_map (f := RL.deep S' 39) (g := id) (h := flD) (l := ds) fun x hx => atom_deep (h x hx) S' 38
    rw [List.map_id] at this
    rw [this]; rfl
theorem vl_lst {p : Nat → Prop} {n : Nat} {S : Store} {ds : List D} (h : ∀ d ∈ ds, AtomD d) (hl : ds.length ≤ 100) (hS : S[n]? = some (.lst ds)) (hn : ¬ p n) : Vl p S (.ptr n) := by
  refine ⟨.list (ds.map flD), tame_lst (fun q hq => ?_) (by rw [List.length_map]; exact hl), .inr ⟨n, rfl, hn, lt_of_get hS, fun S' e => ?_⟩⟩
  · obtain ⟨d, hd, rfl⟩ := List.mem_map.mp hq
    exact atom_at (h d hd)
  · unfold deepLine RL.deep
    rw [e, hS]
    have := mapO_map (f := RL.deep S' 39) (g := id) (h := flD) (l := ds) fun x hx => atom_deep (h x hx) S' 38
    rw [List.map_id] at this
    simp only
    rw [this]; rfl

theorem vl_of {p : Nat → Prop} {S : Store} {d : D} (q : PyData) (h : ∀ S', RL.deep S' deepLine d = some q) (t : Tame q) : Vl p S d := ⟨q, t, .inl h⟩
theorem vl_at {p : Nat → Prop} {n : Nat} {S : Store} (q : PyData) (hS : n < S.length) (hn : ¬ p n) (h : ∀ S' : Store, S'[n]? = S[n]? → RL.deep S' deepLine (.ptr n) = some q) (t : Tame q) : Vl p S (.ptr n) := ⟨q, t, .inr ⟨n, rfl, hn, hS, h⟩⟩
theorem vl_dct {p : Nat → Prop} {n : Nat} {S : Store} {k : L2.Key} {i : Int} (hS : S[n]? = some (.dct [(k, .int i)])) (hn : ¬ p n) (t : Tame (.dict [(keyP k, .int i)])) : Vl p S (.ptr n) :=
  vl_at _ (lt_of_get hS) hn (fun S' e => by unfold deepLine RL.deep; rw [e, hS]; rfl) t
theorem vl_dct0 {p : Nat → Prop} {n : Nat} {S : Store} (hS : S[n]? = some (.dct [])) (hn : ¬ p n) : Vl p S (.ptr n) :=
  vl_at (.dict []) (lt_of_get hS) hn (fun S' e => by unfold deepLine RL.deep; rw [e, hS]; rfl) ⟨rfl, rfl, by decide, by decide⟩
theorem nf : ¬ False := fun z => z
abbrev ga (T : Store) {S : Store} {n : Nat} {c : Cell} (h : S[n]? = some c) : (S ++ T)[n]? = some c := (Gr.app (q := fun _ => False) T).get h nf
theorem DeckOk.gr {S S' : Store} {p : Nat} {t : Int} (h : DeckOk S p t) (g : Gr0 S S') : DeckOk S' p t := by
  obtain ⟨a, b, c, h, r⟩ := h
  exact ⟨a, b, c, g.get h nf, r⟩
theorem DeckOk.lt {S : Store} {p : Nat} {t : Int} (h : DeckOk S p t) : p < S.length := by
  obtain ⟨a, b, c, h, r⟩ := h
  exact lt_of_get h
def SmallG (l : List Int) : Prop := l.length ≤ 10 ∧ ∀ x ∈ l, x.natAbs < 2 ^ 40
theorem smallG_atoms {l : List Int} (h : SmallG l) : ∀ d ∈ l.map D.int, AtomD d := fun d hd => by
  obtain ⟨x, hx, rfl⟩ := List.mem_map.mp hd
  exact h.2 x hx
/-! ### what the parts are -/
theorem goG_len : ∀ (rs : List Int) (found : List (List Int)), (goG found rs).length = found.length * 2 ^ rs.length
  | [], found => by show found.length = found.length * 1; omega
  | n :: rs, found => by
    show (goG (found ++ found.map (· ++ [n])) rs).length = _
    rw [goG_len rs, List.length_append, List.length_map, List.length_cons, Nat.pow_succ, ← Nat.mul_two, Nat.mul_assoc, Nat.mul_comm 2]
theorem goG_mem (m : Nat) (R : Int → Prop) : ∀ (rs : List Int) (found : List (List Int)), (∀ l ∈ found, l.length + rs.length ≤ m ∧ ∀ x ∈ l, R x) → (∀ x ∈ rs, R x) → ∀ l ∈ goG found rs, l.length ≤ m ∧ ∀ x ∈ l, R x
  | [], found, h, _, l, hl => by
    have := h l hl
    exact ⟨by simpa using this.1, this.2⟩
  | n :: rs, found, h, hr, l, hl => by
    refine goG_mem m R rs (found ++ found.map (· ++ [n])) (fun l' hl' => ?_) (fun x hx => hr x (List.mem_cons_of_mem _ hx)) l hl
    rcases List.mem_append.mp hl' with h' | h'
    · have := h l' h'
      rw [List.length_cons] at this
      exact ⟨by omega, this.2⟩
    · obtain ⟨l2, h2, rfl⟩ := List.mem_map.mp h'
      have := h l2 h2
      rw [List.length_cons] at this
      refine ⟨by simp; omega, fun x hx => ?_⟩
      rcases List.mem_append.mp hx with hx | hx
      · exact this.2 x hx
      · rw [List.mem_singleton.mp hx]; exact hr n List.mem_cons_self
theorem partsI_len (ns : List Int) : (partsI ns).length = 2 ^ ns.length := by
  unfold partsI sortI
  rw [List.length_mergeSort, goG_len]
  show 1 * 2 ^ ns.length = _
  rw [Nat.one_mul]
theorem partsI_mem {ns l : List Int} (h : l ∈ partsI ns) : l.length ≤ ns.length ∧ ∀ x ∈ l, x ∈ ns := by
  unfold partsI sortI at h
  refine goG_mem ns.length (fun x => x ∈ ns) ns [[]] (fun l' hl' => ?_) (fun x hx => hx) l (List.mem_mergeSort.mp h)
  rw [List.mem_singleton.mp hl']
  exact ⟨by simp, fun x hx => by cases hx⟩
def SmallP (ns : List Int) : Prop := ns.length ≤ 5 ∧ ∀ x ∈ ns, x.natAbs < 2 ^ 40
theorem SmallP.mem {ns l : List Int} (h : SmallP ns) (hl : l ∈ partsI ns) : SmallP l := ⟨Nat.le_trans (partsI_mem hl).1 h.1, fun x hx => h.2 x ((partsI_mem hl).2 x hx)⟩
theorem SmallP.g {l : List Int} (h : SmallP l) : SmallG l := ⟨Nat.le_trans h.1 (by decide), h.2⟩
theorem upto_small {h : Nat} (hh : h ≤ 5) : SmallP (upto h) := ⟨by rw [upto_len]; exact hh, fun x hx => by
  unfold upto at hx
  obtain ⟨i, hi, rfl⟩ := List.mem_map.mp hx
  have := List.mem_range.mp hi
  have : i < 2 ^ 40 := Nat.lt_of_lt_of_le this (Nat.le_trans hh (by decide))
  simpa using this⟩
/-- all of a list of data within bounds -/
structure In (k w : Nat) (p : PyData) : Prop where
  sh : p.showable = true
  lv : p.leavesShort 100 = true
  dp : p.depth ≤ k
  wt : p.weight ≤ w
theorem ins_of {k w : Nat} : ∀ {ps : List PyData}, (∀ p ∈ ps, In k w p) → PyData.showableAll ps = true ∧ PyData.leavesShortAll 100 ps = true ∧ PyData.depthAll ps ≤ k ∧ PyData.weightAll ps ≤ (w + 1) * ps.length
  | [], _ => ⟨rfl, rfl, Nat.zero_le _, Nat.zero_le _⟩
  | p :: ps, h => by
    obtain ⟨a, b, c, d⟩ := ins_of fun q hq => h q (List.mem_cons_of_mem _ hq)
    have hp := h p List.mem_cons_self
    unfold PyData.showableAll PyData.leavesShortAll PyData.depthAll PyData.weightAll
    rw [a, b, hp.sh, hp.lv, List.length_cons, Nat.mul_succ]
    exact ⟨rfl, rfl, Nat.max_le.mpr ⟨hp.dp, c⟩, by have := hp.wt; omega⟩
theorem in_tup {k w n : Nat} {ps : List PyData} (h : ∀ p ∈ ps, In k w p) (hl : ps.length ≤ n) : In (k + 1) ((w + 1) * n) (.tuple ps) := by
  obtain ⟨a, b, c, d⟩ := ins_of h
  refine ⟨?_, ?_, ?_, ?_⟩
  · unfold PyData.showable; exact a
  · unfold PyData.leavesShort; exact b
  · unfold PyData.depth; omega
  · unfold PyData.weight; exact Nat.le_trans d (Nat.mul_le_mul_left _ hl)
theorem in_lst {k w n : Nat} {ps : List PyData} (h : ∀ p ∈ ps, In k w p) (hl : ps.length ≤ n) : In (k + 1) ((w + 1) * n) (.list ps) := by
  obtain ⟨a, b, c, d⟩ := ins_of h
  refine ⟨?_, ?_, ?_, ?_⟩
  · unfold PyData.showable; exact a
  · unfold PyData.leavesShort; exact b
  · unfold PyData.depth; omega
  · unfold PyData.weight; exact Nat.le_trans d (Nat.mul_le_mul_left _ hl)
theorem In.weak {k w k' w' : Nat} {p : PyData} (h : In k w p) (h1 : k ≤ k') (h2 : w ≤ w') : In k' w' p := ⟨h.sh, h.lv, Nat.le_trans h.dp h1, Nat.le_trans h.wt h2⟩
theorem in_int {i : Int} (h : i.natAbs < 2 ^ 40) : In 0 50 (.int i) := ⟨(at_int h).sh, (at_int h).lv, Nat.le_of_eq (at_int h).dp, (at_int h).wt⟩
def qT (ls : List (List Int)) : PyData := .tuple (ls.map fun l => .tuple (l.map PyData.int))
theorem deep_qT (S : Store) (k : Nat) (ls : List (List Int)) : deep S (k + 3) (.tup (ls.map tupI)) = some (qT ls) := by
  unfold deep
  rw [deep_tupsO]; rfl
theorem in_qT {ns : List Int} (h : SmallP ns) : In 2 8192 (qT (partsI ns)) := by
  have : In 2 ((255 + 1) * 32) (qT (partsI ns)) := by
    refine in_tup (fun p hp => ?_) (by rw [List.length_map, partsI_len]; exact Nat.le_trans (Nat.pow_le_pow_right (by decide) h.1) (by decide))
    obtain ⟨l, hl, rfl⟩ := List.mem_map.mp hp
    have sl := h.mem hl
    have : In 1 ((50 + 1) * 5) (.tuple (l.map PyData.int)) := by
      refine in_tup (fun p hp => ?_) (by rw [List.length_map]; exact sl.1)
      obtain ⟨x, hx, rfl⟩ := List.mem_map.mp hp
      exact in_int (sl.2 x hx)
    exact this.weak (by decide) (by decide)
  exact this.weak (by decide) (by decide)
theorem deep_list {S : Store} {n k : Nat} {ds : List D} {ps : List PyData} (h : S[n]? = some (.lst ds)) (e : mapO (deep S k) ds = some ps) : deep S (k + 1) (.ptr n) = some (.list ps) := by
  unfold deep; rw [h]; simp only; rw [e]; rfl
theorem In.tame {k w : Nat} {p : PyData} (h : In k w p) (h1 : k ≤ 12) (h2 : w ≤ 50000) : Tame p := ⟨h.sh, h.lv, Nat.le_trans h.dp h1, Nat.le_trans h.wt h2⟩
theorem atD_last {xs : List D} (h : xs ≠ []) : ∃ d ∈ xs, atD xs (-1) = some d := by
  have pos := List.length_pos_iff.mpr h
  refine ⟨xs[xs.length - 1], List.getElem_mem _, ?_⟩
  unfold atD atI ixN
  rw [if_neg (by decide), if_pos (by omega)]
  show xs[((-1 : Int) + xs.length).toNat]? = _
  rw [show ((-1 : Int) + xs.length).toNat = xs.length - 1 by omega]
  exact List.getElem?_eq_getElem _

theorem mapO_two {S : Store} {k : Nat} {a b : D} {x y : PyData} (h1 : deep S k a = some x) (h2 : deep S k b = some y) : mapO (deep S k) [a, b] = some [x, y] := by
  simp only [mapO, h1, h2]
theorem Vl.all {q : Nat → Prop} {S : Store} {d : D} (h : Vl q S d) : ∃ p, Tame p ∧ ∀ S', Gr0 S S' → RL.deep S' deepLine d = some p := by
  obtain ⟨p, t, h | ⟨n, rfl, np, nl, h⟩⟩ := h
  · exact ⟨p, t, fun S' _ => h S'⟩
  · exact ⟨p, t, fun S' g => h S' (g.same n nl nf)⟩
theorem DeckOk.put {S : Store} {p m : Nat} {t : Int} {c : Cell} (h : DeckOk S p t) (hm : m ≠ p) : DeckOk (S.set m c) p t := by
  obtain ⟨a, b, c', h, r⟩ := h
  exact ⟨a, b, c', by rw [List.getElem?_set_ne hm]; exact h, r⟩
theorem tame_bools (a b : Bool) : Tame (.list [.bool a, .bool b]) := by
  cases a <;> cases b <;> exact ⟨by decide, by decide, by decide, by decide⟩
theorem deep_bools {S : Store} {n : Nat} {a b : Bool} (h : S[n]? = some (.lst [.bl a, .bl b])) : RL.deep S deepLine (.ptr n) = some (.list [.bool a, .bool b]) := deep_list (k := 39) h (mapO_two rfl rfl)
theorem partsI_nil : partsI [] = [[]] := by
  unfold partsI sortI goG
  simp
theorem mapO_three {S : Store} {k : Nat} {a b c : D} {x y z : PyData} (h1 : deep S k a = some x) (h2 : deep S k b = some y) (h3 : deep S k c = some z) : mapO (deep S k) [a, b, c] = some [x, y, z] := by
  simp only [mapO, h1, h2, h3]
theorem tame_two {a b : PyData} {w : Nat} (h1 : In 2 w a) (h2 : In 2 w b) (hw : w ≤ 10000) : Tame (.list [a, b]) := (in_lst (ps := [a, b]) (n := 2) (k := 2) (w := w) (fun p hp => by
  rcases List.mem_cons.mp hp with rfl | hp
  · exact h1
  · rw [List.mem_singleton.mp hp]; exact h2) (Nat.le_refl 2)).tame (by decide) (by omega)
theorem tame_three {a b c : PyData} {w : Nat} (h1 : In 2 w a) (h2 : In 2 w b) (h3 : In 2 w c) (hw : w ≤ 10000) : Tame (.list [a, b, c]) := (in_lst (ps := [a, b, c]) (n := 3) (k := 2) (w := w) (fun p hp => by
  rcases List.mem_cons.mp hp with rfl | hp
  · exact h1
  · rcases List.mem_cons.mp hp with rfl | hp
    · exact h2
    · rw [List.mem_singleton.mp hp]; exact h3) (Nat.le_refl 3)).tame (by decide) (by omega)
end RL

namespace RL
open PySem PySem.Spec PyProof.Rows L2 PySem.W

/-! ### the order of groups -/
def toksI (l : List Int) : List (Int ⊕ List Nat) := keyToks (.tuple (l.map PyData.int))
theorem toksI_nil : toksI [] = [.inl 0] := by
  unfold toksI
  simp only [List.map_nil, keyToks, keyToksAll]
theorem toksI_cons (x : Int) (l : List Int) : toksI (x :: l) = .inl 1 :: .inl x :: toksI l := by
  unfold toksI
  simp only [List.map_cons, keyToks, keyToksAll, List.cons_append, List.nil_append]
theorem lex_toks : ∀ a b : List Int, PyProof.Rows.lexLt itemOrd (toksI a) (toksI b) = HT.lexLt a b
  | [], [] => by rw [toksI_nil]; exact lex_irrefl _
  | [], y :: ys => by
    rw [toksI_nil, toksI_cons, lex_diff (by simp)]
    rfl
  | x :: xs, [] => by
    rw [toksI_nil, toksI_cons, lex_diff (by simp)]
    rfl
  | x :: xs, y :: ys => by
    rw [toksI_cons, toksI_cons]
    have pre := lex_pre [.inl 1] (.inl x :: toksI xs) (.inl y :: toksI ys)
    rw [show ∀ l : List (Int ⊕ List Nat), [Sum.inl 1] ++ l = .inl 1 :: l from fun _ => rfl] at pre
    rw [show ∀ l : List (Int ⊕ List Nat), [Sum.inl 1] ++ l = .inl 1 :: l from fun _ => rfl] at pre
    rw [pre, HT.lexLt_cons]
    by_cases h : x = y
    · subst h
      rw [if_pos rfl]
      have pre2 := lex_pre [.inl x] (toksI xs) (toksI ys)
      rw [← lex_toks xs ys]
      exact pre2
    · rw [if_neg h, lex_diff (by simpa using h)]
      rfl
theorem leI_eq (a b : List Int) : leI a b = !HT.lexLt b a := by
  have d : ∀ l : List Int, shownD [] (tupI l) = .tuple (l.map PyData.int) := fun l => by
    unfold shownD
    rw [show deep [] deepLine (tupI l) = _ from deep_tupI [] 38 l]
    rfl
  unfold leI leD W.sortLe
  simp only [d, cond_false]
  rw [← lex_toks b a]
  rfl
/-- no item is less than the one ahead -/
def asc2 : List (List Int) → Bool
  | a :: b :: r => !HT.lexLt b a && asc2 (b :: r)
  | _ => true
theorem ltL_irrefl (a : List Int) : HT.lexLt a a = false := by rw [← lex_toks]; exact lex_irrefl _
theorem ltL_trans {a b c : List Int} (h1 : HT.lexLt b a = false) (h2 : HT.lexLt c b = false) : HT.lexLt c a = false := by
  rw [← lex_toks] at h1 h2 ⊢
  cases h : PyProof.Rows.lexLt itemOrd (toksI c) (toksI a) with
  | false => rfl
  | true =>
    rcases lex_negTrans (O := itemOrd) (toksI c) (toksI b) (toksI a) h with z | z
    · rw [h2] at z; cases z
    · rw [h1] at z; cases z
theorem leI_trans (a b c : List Int) (h1 : leI a b = true) (h2 : leI b c = true) : leI a c = true := by
  rw [leI_eq] at h1 h2 ⊢
  simp only [Bool.not_eq_true'] at h1 h2 ⊢
  exact ltL_trans h1 h2
theorem leI_total (a b : List Int) : (leI a b || leI b a) = true := by
  rw [leI_eq, leI_eq]
  cases h1 : HT.lexLt b a with
  | false => rfl
  | true =>
    cases h2 : HT.lexLt a b with
    | false => rfl
    | true =>
      rw [← lex_toks] at h1 h2
      have := lex_trans (O := itemOrd) _ _ _ h1 h2
      rw [lex_irrefl] at this
      cases this
theorem asc2_pair : ∀ ls : List (List Int), asc2 ls = true ↔ ls.Pairwise fun a b => leI a b = true
  | [] => by simp [asc2]
  | [a] => by simp [asc2]
  | a :: b :: r => by
    have ih := asc2_pair (b :: r)
    unfold asc2
    rw [Bool.and_eq_true, ih, List.pairwise_cons (a := a), ← leI_eq]
    constructor
    · rintro ⟨h1, h2⟩
      refine ⟨fun c hc => ?_, h2⟩
      rcases List.mem_cons.mp hc with rfl | hc
      · exact h1
      · exact leI_trans a b c h1 ((List.pairwise_cons.mp h2).1 c hc)
    · rintro ⟨h1, h2⟩
      exact ⟨h1 b List.mem_cons_self, h2⟩
theorem sortI_asc (ls : List (List Int)) : asc2 (sortI ls) = true := (asc2_pair _).mpr (List.pairwise_mergeSort leI_trans leI_total ls)
theorem sortI_self {ls : List (List Int)} (h : asc2 ls = true) : sortI ls = ls := List.mergeSort_of_pairwise ((asc2_pair _).mp h)
theorem sortI_iff (ls : List (List Int)) : sortI ls = ls ↔ asc2 ls = true := ⟨fun e => by rw [← e]; exact sortI_asc ls, sortI_self⟩
end RL

namespace RL
open PySem PySem.Spec PyProof.Rows L2 PySem.W

/-- turns that may make new cells: what passes the test, by g; the new list stands behind S0 -/
theorem compT_gr {chk : Store → Prop} {i : Nat} {t : MT} {e : ME} {ρ : Env} {S0 : Store} (tb : D → Bool) (g : D → D) (hc : ∀ S, Gr0 S0 S → chk S) : ∀ (xs acc : List D) (S : Store), acc.length + xs.length ≤ sizeLine → Gr0 S0 S → S[S0.length]? = some (.lst acc) →
    (∀ x ∈ xs, ∀ S, Gr0 S0 S → S0.length < S.length → Ok (t (ρ.set i (some x)) S) fun b S2 => b = tb x ∧ Gr0 S S2) →
    (∀ x ∈ xs, tb x = true → ∀ S, Gr0 S0 S → S0.length < S.length → Ok (e (ρ.set i (some x)) S) fun y S3 => y = g x ∧ Gr0 S S3) →
    Ok (compT chk (bNm i) t e S0.length ρ xs S) fun _ S' => S'[S0.length]? = some (.lst (acc ++ (xs.filter tb).map g)) ∧ Gr0 S0 S'
  | [], acc, S, _, hg, hS, _, _ => by
    show S[S0.length]? = some (.lst (acc ++ [])) ∧ Gr0 S0 S
    rw [List.append_nil]; exact ⟨hS, hg⟩
  | x :: xs, acc, S, hl, hg, hS, ht, he => by
    rw [List.length_cons] at hl
    unfold compT
    show Ok ((noExn (t (ρ.set i (some x)) S)).bind fun b S2 => _) _
    rw [Ok_bind]
    refine Ok_noExn ((ht x List.mem_cons_self S hg (lt_of_get hS)).mono fun b S2 hb => ?_)
    obtain ⟨rfl, g2⟩ := hb
    have hS2 := g2.get hS nf
    have hg2 := hg.trans g2
    cases hx : tb x with
    | false =>
      simp only [Bool.false_eq_true, if_false]
      rw [if_pos (hc _ hg2), List.filter_cons_of_neg (by rw [hx]; decide)]
      exact compT_gr tb g hc xs acc S2 (by omega) hg2 hS2 (fun y hy => ht y (List.mem_cons_of_mem _ hy)) fun y hy => he y (List.mem_cons_of_mem _ hy)
    | true =>
      simp only [if_true]
      rw [Ok_bind]
      refine Ok_noExn ((he x List.mem_cons_self hx S2 hg2 (lt_of_get hS2)).mono fun y S3 hy => ?_)
      obtain ⟨rfl, g3⟩ := hy
      have hS3 := g3.get hS2 nf
      have hg3 := (hg2.trans g3).putNew (c := .lst (acc ++ [g x])) (Nat.le_refl S0.length)
      rw [hS3]
      simp only
      rw [if_pos ⟨by omega, hc _ hg3⟩, List.filter_cons_of_pos hx, List.map_cons]
      have := compT_gr tb g hc xs (acc ++ [g x]) _ (by rw [List.length_append, List.length_cons, List.length_nil]; omega) hg3 (by rw [List.getElem?_set_self (lt_of_get hS3)]) (fun y hy => ht y (List.mem_cons_of_mem _ hy)) fun y hy => he y (List.mem_cons_of_mem _ hy)
      rw [List.append_assoc] at this
      exact this

/-! ### even and odd parts are equally many -/
def evB (l : List Int) : Bool := l.length % 2 == 0
theorem evB_snoc (l : List Int) (n : Int) : evB (l ++ [n]) = !evB l := by
  unfold evB
  rw [List.length_append, List.length_singleton]
  rw [Bool.eq_iff_iff]
  simp
  omega
theorem count_step (found : List (List Int)) (n : Int) : (found ++ found.map (· ++ [n])).countP evB = found.countP evB + found.countP (fun l => !evB l) := by
  rw [List.countP_append, List.countP_map]
  congr 1
  refine List.countP_congr fun l _ => ?_
  show evB (l ++ [n]) = true ↔ _
  rw [evB_snoc]
theorem count_step2 (found : List (List Int)) (n : Int) : (found ++ found.map (· ++ [n])).countP (fun l => !evB l) = found.countP evB + found.countP (fun l => !evB l) := by
  rw [List.countP_append, List.countP_map, Nat.add_comm]
  congr 1
  refine List.countP_congr fun l _ => ?_
  show (!evB (l ++ [n])) = true ↔ _
  rw [evB_snoc, Bool.not_not]
theorem count_goG : ∀ (rs : List Int) (found : List (List Int)), rs ≠ [] → (goG found rs).countP evB = (goG found rs).countP fun l => !evB l
  | [], _, h => absurd rfl h
  | [n], found, _ => by
    show (found ++ found.map (· ++ [n])).countP evB = (found ++ found.map (· ++ [n])).countP fun l => !evB l
    rw [count_step, count_step2]
  | n :: m :: rs, found, _ => count_goG (m :: rs) (found ++ found.map (· ++ [n])) (by simp)
theorem count_parts {ns : List Int} (h : ns ≠ []) : ((partsI ns).filter evB).length = ((partsI ns).filter fun l => !evB l).length := by
  unfold partsI sortI
  rw [← List.countP_eq_length_filter, ← List.countP_eq_length_filter, (List.mergeSort_perm _ _).countP_eq, (List.mergeSort_perm _ _).countP_eq]
  exact count_goG ns [[]] h
end RL

namespace RL
open PySem PySem.Spec PyProof.Rows L2 PySem.W

/-! ### sorted ints -/
def leN (a b : Int) : Bool := decide (a ≤ b)
def sortN (ns : List Int) : List Int := ns.mergeSort leN
theorem leD_int (S : Store) (a b : Int) : leD S (.int a) (.int b) = leN a b := by
  have d : ∀ i : Int, shownD S (.int i) = .int i := fun i => by
    unfold shownD deepLine deep
    rfl
  unfold leD W.sortLe
  simp only [d, cond_false]
  show (!PyProof.Rows.lexLt itemOrd (keyToks (.int b)) (keyToks (.int a))) = _
  simp only [keyToks]
  by_cases h : b = a
  · subst h
    rw [show PyProof.Rows.lexLt itemOrd [Sum.inl b] [Sum.inl b] = false from lex_irrefl (O := itemOrd) _]
    simp [leN]
  · rw [show PyProof.Rows.lexLt itemOrd [Sum.inl b] [Sum.inl a] = decide (b < a) from lex_diff (O := itemOrd) (by simpa using h)]
    unfold leN
    rw [Bool.eq_iff_iff]
    simp
theorem sort_ints (S : Store) (ns : List Int) : (ns.map D.int).mergeSort (leD S) = (sortN ns).map D.int := by
  unfold sortN
  exact (List.map_mergeSort fun a _ b _ => (leD_int S a b).symm).symm
theorem okSort_ints (ns : List Int) : okSort (ns.map PyData.int) = true := by
  unfold okSort
  rw [Bool.and_eq_true]
  constructor
  · rw [List.all_eq_true]
    intro p hp
    obtain ⟨a, _, rfl⟩ := List.mem_map.mp hp
    rw [List.all_eq_true]
    intro q hq
    obtain ⟨b, _, rfl⟩ := List.mem_map.mp hq
    rfl
  · rw [List.all_eq_true]
    intro p hp
    obtain ⟨a, _, rfl⟩ := List.mem_map.mp hp
    simp only [PyData.depth, PyData.canLay0]
    rfl
theorem Ok_sortN {S : Store} {ns : List Int} {P : D → Store → Prop} (hP : P (.ptr S.length) (S ++ [.lst ((sortN ns).map D.int)])) : Ok (fSorted [.tup (ns.map D.int)] S) P := by
  unfold fSorted
  simp only
  unfold sortD
  rw [show mapO (deep S deepLine) (ns.map D.int) = some (ns.map PyData.int) from deep_intsO S 39 ns]
  simp only [okSort_ints, if_true]
  rw [sort_ints]
  exact hP

/-! ### groups -/
def GrpI (h : Int) (l : List Int) : Prop := l.Pairwise (· < ·) ∧ ∀ x ∈ l, 0 ≤ x ∧ x ≤ h - 1
theorem asc_grp (h : Int) : ∀ (l : List Int) (k : Int), asc h k (l.map D.int) = true ↔ l.Pairwise (· < ·) ∧ ∀ x ∈ l, k ≤ x ∧ x ≤ h - 1
  | [], k => by simp [asc]
  | a :: l, k => by
    rw [List.map_cons]
    unfold asc
    simp only
    by_cases hc : k ≤ a ∧ a ≤ h - 1
    · rw [if_pos hc, asc_grp h l (a + 1), List.pairwise_cons]
      constructor
      · rintro ⟨h1, h2⟩
        refine ⟨⟨fun x hx => by have := h2 x hx; omega, h1⟩, fun x hx => ?_⟩
        rcases List.mem_cons.mp hx with rfl | hx
        · exact hc
        · have := h2 x hx; omega
      · rintro ⟨⟨h1, h2⟩, h3⟩
        exact ⟨h2, fun x hx => by have := h1 x hx; have := h3 x (List.mem_cons_of_mem _ hx); omega⟩
    · rw [if_neg hc]
      constructor
      · intro z; cases z
      · rintro ⟨_, h3⟩
        exact absurd (h3 a List.mem_cons_self) hc
theorem isGroup_grp (h : Int) (l : List Int) : isGroupB h (tupI l) = true ↔ GrpI h l := asc_grp h l 0
theorem goG_sub : ∀ (rs pre : List Int) (found : List (List Int)), (∀ l ∈ found, List.Sublist l pre) → ∀ l ∈ goG found rs, List.Sublist l (pre ++ rs)
  | [], pre, found, hf, l, hl => by rw [List.append_nil]; exact hf l hl
  | n :: rs, pre, found, hf, l, hl => by
    have := goG_sub rs (pre ++ [n]) (found ++ found.map (· ++ [n])) (fun l' hl' => by
      rcases List.mem_append.mp hl' with h | h
      · exact (hf l' h).trans (List.sublist_append_left _ _)
      · obtain ⟨l2, h2, rfl⟩ := List.mem_map.mp h
        exact (hf l2 h2).append (List.Sublist.refl _)) l hl
    rw [List.append_assoc] at this
    exact this
theorem parts_sub {ns l : List Int} (h : l ∈ partsI ns) : List.Sublist l ns := by
  unfold partsI sortI at h
  have := goG_sub ns [] [[]] (fun l hl => by rw [List.mem_singleton.mp hl]; exact List.Sublist.refl _) l (List.mem_mergeSort.mp h)
  simpa using this
theorem parts_grp {h : Int} {ns l : List Int} (hn : GrpI h ns) (hl : l ∈ partsI ns) : GrpI h l := ⟨hn.1.sublist (parts_sub hl), fun x hx => hn.2 x ((parts_sub hl).subset hx)⟩
theorem upto_grp (h : Nat) : GrpI h (upto h) := by
  refine ⟨?_, fun x hx => ?_⟩
  · unfold upto
    rw [List.pairwise_map]
    exact List.pairwise_lt_range.imp fun hab => by omega
  · unfold upto at hx
    obtain ⟨i, hi, rfl⟩ := List.mem_map.mp hx
    have := List.mem_range.mp hi
    omega
/-- two groups without a holder in common, sorted together -/
theorem sortN_grp {h : Int} {a b : List Int} (ha : GrpI h a) (hb : GrpI h b) (hd : ∀ x ∈ a, x ∉ b) : GrpI h (sortN (a ++ b)) := by
  have perm : List.Perm (sortN (a ++ b)) (a ++ b) := List.mergeSort_perm _ _
  refine ⟨?_, fun x hx => ?_⟩
  · have srt : (sortN (a ++ b)).Pairwise fun x y => leN x y = true := List.pairwise_mergeSort (fun x y z h1 h2 => by unfold leN at *; simp at *; omega) (fun x y => by unfold leN; simp; omega) _
    have nd : (sortN (a ++ b)).Nodup := by
      rw [perm.nodup_iff, List.nodup_append]
      refine ⟨ha.1.imp fun h => by omega, hb.1.imp fun h => by omega, fun x hx y hy e => ?_⟩
      subst e
      exact hd x hx hy
    have both := srt.and nd
    exact both.imp fun {x y} hxy => by
      have h1 := hxy.1
      have h2 := hxy.2
      unfold leN at h1
      simp at h1
      omega
  · rcases List.mem_append.mp (perm.subset hx) with hx | hx
    · exact ha.2 x hx
    · exact hb.2 x hx
end RL

namespace RL
open PySem PySem.Spec PyProof.Rows L2
theorem inD_ints (S : Store) (i : Int) (a : List Int) : inD (.int i) (tupI a) S = some (a.any fun y => y == i) := by
  have e : ∀ a : List Int, (a.map D.int).all flatB = true := fun a => by
    induction a with
    | nil => rfl
    | cons x a ih => rw [List.map_cons, List.all_cons, ih]; rfl
  unfold inD itemsD tupI
  simp only
  rw [if_pos ⟨rfl, e a⟩]
  congr 1
  unfold inV
  rw [List.map_map, List.any_map]
  rfl
theorem intsOf_ints : ∀ l : List Int, intsOf (l.map D.int) = some l
  | [] => rfl
  | x :: l => by
    rw [List.map_cons]
    unfold intsOf
    rw [intsOf_ints l]
theorem Ok_eqI {a b : Int} {S : Store} {P : D → Store → Prop} (h : P (.bl (a == b)) S) : Ok (oEq (.int a) (.int b) S) P := Ok_eqD (d := .int a) (e := .int b) rfl rfl rfl rfl h
theorem eqv_intsT (ns ms : List Int) : PyData.eqv (.tuple (ns.map PyData.int)) (.tuple (ms.map PyData.int)) = decide (ns = ms) := eqv_intsL ns ms
theorem odd_part {h : Nat} (h1 : 1 ≤ h) : ∃ l ∈ partsI (upto h), l ≠ [] := by
  have ne : upto h ≠ [] := by
    intro e
    have := upto_len h
    rw [e] at this
    simp at this
    omega
  have c := count_parts ne
  have tot : ((partsI (upto h)).filter evB).length + ((partsI (upto h)).filter fun l => !evB l).length = 2 ^ h := by
    have e2 : (partsI (upto h)).countP (fun a => decide ¬evB a = true) = (partsI (upto h)).countP fun l => !evB l := List.countP_congr fun l _ => by simp
    have e3 := List.length_eq_countP_add_countP (p := evB) (l := partsI (upto h))
    rw [partsI_len, upto_len, e2] at e3
    rw [← List.countP_eq_length_filter, ← List.countP_eq_length_filter, ← e3]
  have pos : 2 ≤ 2 ^ h := Nat.le_trans (by decide) (Nat.pow_le_pow_right (by decide) h1)
  have odd : 0 < ((partsI (upto h)).filter fun l => !evB l).length := by omega
  obtain ⟨l, hl⟩ := List.exists_mem_of_length_pos odd
  obtain ⟨m, e⟩ := List.mem_filter.mp hl
  refine ⟨l, m, ?_⟩
  rintro rfl
  cases e
/-- even and odd parts of a group, each with more -/
theorem half {S : Store} {a b : List Int} {n : Nat} {ρ : RL.Env} {r : Int} (hk : ρ[4]? = some (some (tupI b))) (hρ : 8 < ρ.length) (hS : S[n]? = some (.lst ((partsI a).map tupI))) (ha : a.length ≤ 5) (hb : b.length ≤ 5) (hr : 0 ≤ r ∧ r < 2) (chk : Store → Prop) (hc : ∀ S', Gr0 S S' → chk S') :
    Ok (compT chk (bNm 8) (tOf (eBin oEq (eBin oMod (eCall fInt (aCons (eCall fLen (aCons (eVar 8) aNil)) aNil)) (eC (.int 2))) (eC (.int r)))) (eCall fTuple (aCons (eCall fSorted (aCons (eBin oAdd (eVar 8) (eVar 4)) aNil)) aNil)) S.length ρ ((partsI a).map tupI) (S ++ [.lst []]))
      fun _ S' => S'[S.length]? = some (.lst ((((partsI a).filter fun l => (l.length : Int) % 2 == r).map fun l => sortN (l ++ b)).map tupI)) ∧ Gr0 S S' := by
  have bg := big1000
  have len : ((partsI a).map tupI).length ≤ 32 := by
    rw [List.length_map, partsI_len]
    exact Nat.le_trans (Nat.pow_le_pow_right (by decide) ha) (by decide)
  refine (compT_gr (S0 := S) (fun d => match d with | .tup l => (l.length : Int) % 2 == r | _ => false) (fun d => match d with | .tup l => tupI (sortN ((intsOf l).getD [] ++ b)) | d => d) hc _ [] _ (by simp only [List.length_nil]; omega) (Gr.app _) (get_last _ _) (fun x hm S2 g2 l2 => ?_) (fun x hm _ S2 g2 l2 => ?_)).mono ?_
  · obtain ⟨l, hl, rfl⟩ := List.mem_map.mp hm
    have e8 : (ρ.set 8 (some (tupI l)))[8]? = some (some (tupI l)) := by rw [List.getElem?_set_self hρ]
    rw [Ok_tOf, Ok_bin, Ok_bin, Ok_call, Ok_cons, Ok_call, Ok_cons, Ok_var]
    refine ⟨_, e8, ?_⟩
    simp only [Ok_ok, Ok_bind, Ok_tOf, Ok_tNot, Ok_tAnd, Ok_tOr, Ok_eIf, Ok_andV, Ok_orV, Ok_notV, Ok_chain, Ok_addI, Ok_subI, Ok_mulI, Ok_modI, Ok_divI, Ok_powI, Ok_ltI, Ok_leI, Ok_gtI, Ok_geI, Ok_addT, Ok_intI, Ok_intB, Ok_boolI, Ok_abs, Ok_lenT, Ok_tupleT, Ok_listT, Ok_ixT, Ok_slT, Ok_revT, Ok_dict0, Ok_dict1C, Ok_iAny, Ok_rngM1, Ok_rngM2, OkS_asgSub, Ok_enum, Ok_mtL, Ok_notIn, Ok_in, Ok_neS, Ok_eqS, OkS_seq, OkS_pass, OkS_ret, OkS_retN, OkS_drop, OkS_set, OkS_par, OkS_if, Ok_nil, Ok_cons, Ok_bin, Ok_eC, Ok_call, Ok_fn1, Ok_fnK, Ok_tup, Ok_lst, Ok_isi, Ok_sl, Ok_pNone, Ok_pSome, Ok_neg, Ok_rev, Ok_rg1, Ok_comp, Ok_var, Ok_body, List.map_cons, List.map_nil, List.replicate_succ, List.replicate_zero, List.length_cons, List.length_nil, Nat.reduceSub, Nat.reduceAdd, List.cons_append, List.nil_append, List.getElem?_cons_succ, List.getElem?_cons_zero, List.set_cons_succ, List.set_cons_zero, Option.some.injEq, exists_eq_left', exists_eq_left, D.bl.injEq, D.int.injEq, List.cons.injEq, true_and, and_true, pickL, wipeE, List.map, Ok_if, ex2]
    rw [show tupI l = D.tup (l.map D.int) from rfl, Ok_lenT]
    simp only [Ok_ok, Ok_bind, Ok_tOf, Ok_tNot, Ok_tAnd, Ok_tOr, Ok_eIf, Ok_andV, Ok_orV, Ok_notV, Ok_chain, Ok_addI, Ok_subI, Ok_mulI, Ok_modI, Ok_divI, Ok_powI, Ok_ltI, Ok_leI, Ok_gtI, Ok_geI, Ok_addT, Ok_intI, Ok_intB, Ok_boolI, Ok_abs, Ok_lenT, Ok_tupleT, Ok_listT, Ok_ixT, Ok_slT, Ok_revT, Ok_dict0, Ok_dict1C, Ok_iAny, Ok_rngM1, Ok_rngM2, OkS_asgSub, Ok_enum, Ok_mtL, Ok_notIn, Ok_in, Ok_neS, Ok_eqS, OkS_seq, OkS_pass, OkS_ret, OkS_retN, OkS_drop, OkS_set, OkS_par, OkS_if, Ok_nil, Ok_cons, Ok_bin, Ok_eC, Ok_call, Ok_fn1, Ok_fnK, Ok_tup, Ok_lst, Ok_isi, Ok_sl, Ok_pNone, Ok_pSome, Ok_neg, Ok_rev, Ok_rg1, Ok_comp, Ok_var, Ok_body, List.map_cons, List.map_nil, List.replicate_succ, List.replicate_zero, List.length_cons, List.length_nil, Nat.reduceSub, Nat.reduceAdd, List.cons_append, List.nil_append, List.getElem?_cons_succ, List.getElem?_cons_zero, List.set_cons_succ, List.set_cons_zero, Option.some.injEq, exists_eq_left', exists_eq_left, D.bl.injEq, D.int.injEq, List.cons.injEq, true_and, and_true, pickL, wipeE, List.map, Ok_if, ex2]
    refine ⟨by decide, Ok_eqI ⟨_, rfl, ?_, Gr.refl⟩⟩
    rw [List.length_map]
  · obtain ⟨l, hl, rfl⟩ := List.mem_map.mp hm
    have e8 : (ρ.set 8 (some (tupI l)))[8]? = some (some (tupI l)) := by rw [List.getElem?_set_self hρ]
    have e4 : (ρ.set 8 (some (tupI l)))[4]? = some (some (tupI b)) := by rw [List.getElem?_set_ne (by decide)]; exact hk
    rw [Ok_call, Ok_cons, Ok_call, Ok_cons, Ok_bin, Ok_var]
    refine ⟨_, e8, ?_⟩
    rw [Ok_var]
    refine ⟨_, e4, ?_⟩
    rw [show tupI l = D.tup (l.map D.int) from rfl, show tupI b = D.tup (b.map D.int) from rfl, Ok_addT, ← List.map_append]
    have ll : l.length ≤ 5 := Nat.le_trans (partsI_mem hl).1 ha
    refine ⟨by rw [List.length_map, List.length_map]; omega, ?_⟩
    simp only [Ok_ok, Ok_bind, Ok_tOf, Ok_tNot, Ok_tAnd, Ok_tOr, Ok_eIf, Ok_andV, Ok_orV, Ok_notV, Ok_chain, Ok_addI, Ok_subI, Ok_mulI, Ok_modI, Ok_divI, Ok_powI, Ok_ltI, Ok_leI, Ok_gtI, Ok_geI, Ok_addT, Ok_intI, Ok_intB, Ok_boolI, Ok_abs, Ok_lenT, Ok_tupleT, Ok_listT, Ok_ixT, Ok_slT, Ok_revT, Ok_dict0, Ok_dict1C, Ok_iAny, Ok_rngM1, Ok_rngM2, OkS_asgSub, Ok_enum, Ok_mtL, Ok_notIn, Ok_in, Ok_neS, Ok_eqS, OkS_seq, OkS_pass, OkS_ret, OkS_retN, OkS_drop, OkS_set, OkS_par, OkS_if, Ok_nil, Ok_cons, Ok_bin, Ok_eC, Ok_call, Ok_fn1, Ok_fnK, Ok_tup, Ok_lst, Ok_isi, Ok_sl, Ok_pNone, Ok_pSome, Ok_neg, Ok_rev, Ok_rg1, Ok_comp, Ok_var, Ok_body, List.map_cons, List.map_nil, List.replicate_succ, List.replicate_zero, List.length_cons, List.length_nil, Nat.reduceSub, Nat.reduceAdd, List.cons_append, List.nil_append, List.getElem?_cons_succ, List.getElem?_cons_zero, List.set_cons_succ, List.set_cons_zero, Option.some.injEq, exists_eq_left', exists_eq_left, D.bl.injEq, D.int.injEq, List.cons.injEq, true_and, and_true, pickL, wipeE, List.map, Ok_if, ex2]
    refine Ok_sortN ?_
    rw [Ok_tupleL (.inl (get_last _ _))]
    refine ⟨?_, Gr.app _⟩
    show D.tup _ = tupI (sortN ((intsOf (l.map D.int)).getD [] ++ b))
    rw [intsOf_ints]
    rfl
  · rintro _ S' ⟨h1, h2⟩
    refine ⟨?_, h2⟩
    rw [h1, List.nil_append, List.filter_map, List.map_map, List.map_map]
    congr 2
    have e1 : ((fun d => match d with | D.tup l => (l.length : Int) % 2 == r | _ => false) ∘ tupI) = fun l : List Int => (l.length : Int) % 2 == r := by
      funext l
      show (((l.map D.int).length : Int) % 2 == r) = _
      rw [List.length_map]
    rw [e1]
    refine List.map_congr_left fun l _ => ?_
    show tupI (sortN ((intsOf (l.map D.int)).getD [] ++ b)) = _
    rw [intsOf_ints]
    rfl
theorem modp (l : List Int) : ((l.length : Int) % 2 == 0) = evB l := by
  unfold evB
  rw [Bool.eq_iff_iff]
  simp
  omega
theorem modp1 (l : List Int) : ((l.length : Int) % 2 == 1) = !evB l := by
  unfold evB
  rw [Bool.eq_iff_iff]
  simp
  omega
/-- a block: two lists of equally many groups -/
structure Block (h : Int) (ev od : List (List Int)) : Prop where
  eg : ∀ l ∈ ev, GrpI h l
  og : ∀ l ∈ od, GrpI h l
  len : ev.length = od.length
  pos : 1 ≤ ev.length
  few : ev.length ≤ 32

end RL

namespace RL
open PySem PySem.Spec PyProof.Rows L2

/-! ### for a, b in zip(.., ..) -/
def zipD : List D → List D → List D := List.zipWith fun a b => D.tup [a, b]
theorem zipD_get {a b : List D} {i : Nat} {x y : D} (h1 : a[i]? = some x) (h2 : b[i]? = some y) : (zipD a b)[i]? = some (.tup [x, y]) := by
  unfold zipD
  rw [List.getElem?_zipWith, h1, h2]
theorem zipD_len (a b : List D) : (zipD a b).length = min a.length b.length := List.length_zipWith ..
def iZipM (ms : MA) : MI := fun ρ S => (ms ρ S).bind fun xs S1 => match xs with
  | [.tup a, .tup b] => .ok ⟨zipD a b, fun _ => True⟩ S1
  | [.ptr n, .ptr m] => match S1[n]?, S1[m]? with
    | some (.lst a), some (.lst b) => .ok ⟨zipD a b, fun S => S[n]? = some (.lst a) ∧ S[m]? = some (.lst b)⟩ S1
    | _, _ => .bad
  | _ => .bad
theorem duo_new {K : PySem.W.Frag} {H : Hp} {φ : List Addr} {S : Store} {T : Addr} {d e : D} {v u : V} (rs : RS K H φ S) (rd : RD K H φ d v) (re : RD K H φ e u) (hT : H T = none) :
    Ext K φ H φ (upd H T (.tup [v, u])) ∧ RS K (upd H T (.tup [v, u])) φ S ∧ RD K (upd H T (.tup [v, u])) φ (.tup [d, e]) (.ref T) :=
  ⟨Ext.new hT, rs.new hT, od_new (RDs.cons rd (RDs.cons re RDs.nil)) hT⟩
section
variable {X : Cx} {W : WX} {k : Nat} {e e2 : Expr} {ms : MA}
theorem si_zip {p pos tpos : Pos} {elts : List Expr} {kk : Nat} (hm : X.mg "zip" = none) (ha : SA X W [e, e2] ms) (hg : Gl X "zip" := by rfl) (hs : starEach [e, e2] X.env = (false, eval e X.env) :: starEach [e2] X.env := by rfl) (hpl : (backTo pos (starEach [e2] X.env)).any (·.1) = false := by rfl) :
    SI X W (.Tuple elts kk tpos) (.Call (.Name "zip" p) [e, e2] [] pos) (iZipM ms) := by
  refine (RZ.pi_zipA hg hm ha hs hpl).imp fun σ H R => ?_
  rintro ⟨φ, ρ, S, re, rs, h⟩
  cases hm2 : ms ρ S with
  | bad => simp only [iZipM, hm2, Res.bind] at h; exact h.elim
  | exn x S1 => exact ⟨φ, ρ, S, re, rs, by simp only [iZipM, hm2, Res.bind] at h ⊢; exact h⟩
  | ok xs S1 =>
    simp only [iZipM, hm2, Res.bind] at h
    refine ⟨φ, ρ, S, re, rs, ?_⟩
    rw [hm2]
    intro φ1 H1 x1 rs1 vs rv
    split at h
    · rename_i a b
      obtain ⟨v, u, rfl, r1, r2⟩ := rv.two
      unfold RD at r1 r2
      obtain ⟨pa, us, rfl, s1, q1⟩ := r1
      obtain ⟨pb, ws, rfl, s2, q2⟩ := r2
      refine ⟨pa, pb, us, ws, rfl, .inr ⟨s1, s2, h φ1 H1 x1 rs1 _ ⟨fun i φ2 H2 S2 hi x2 rs2 _ => ?_, fun φ2 H2 S2 x2 rs2 _ => ?_, fun i φ2 H2 S2 v H' hi x2 rs2 _ y => ?_⟩⟩⟩
      · rw [zipD_len] at hi
        have h1 : i < us.length := by rw [q1.length]; omega
        have h2 : i < ws.length := by rw [q2.length]; omega
        exact ⟨us, ws, us[i], ws[i], x2.tup _ _ s1, x2.tup _ _ s2, List.getElem?_eq_getElem h1, List.getElem?_eq_getElem h2⟩
      · refine ⟨us, ws, x2.tup _ _ s1, x2.tup _ _ s2, ?_⟩
        rw [zipD_len, q1.length, q2.length]
        omega
      · obtain ⟨T, x, z, rfl, hT, rfl, hx, hz⟩ := y
        obtain ⟨d1, e1, f1⟩ := (q1.mono x2).pt (hx us (x2.tup _ _ s1))
        obtain ⟨d2, e2, f2⟩ := (q2.mono x2).pt (hz ws (x2.tup _ _ s2))
        obtain ⟨z1, z2, z3⟩ := duo_new rs2 f1 f2 hT
        exact ⟨_, zipD_get e1 e2, z1, z2, z3⟩
    · rename_i n m
      obtain ⟨v, u, rfl, r1, r2⟩ := rv.two
      unfold RD at r1 r2
      obtain ⟨pa, ha, rfl⟩ := r1
      obtain ⟨pb, hb, rfl⟩ := r2
      split at h
      · rename_i a b hSa hSb
        obtain ⟨a', us, q1, q2, q3⟩ := rs1.seqL (.inl hSa)
        rw [ha] at q1; cases q1
        obtain ⟨b', ws, k1, k2, k3⟩ := rs1.seqL (.inl hSb)
        rw [hb] at k1; cases k1
        have get : ∀ φ H S, Ext X.K φ1 H1 φ H → RS X.K H φ S → (S[n]? = some (.lst a) ∧ S[m]? = some (.lst b)) → ∃ xs ys, SqL X.K H pa xs ∧ SqL X.K H pb ys ∧ RDs X.K H φ a xs ∧ RDs X.K H φ b ys := fun φ H S x rs c => by
          obtain ⟨a2, xs, u1, u2, u3⟩ := rs.seqL (.inl c.1)
          rw [x.pre _ _ ha] at u1; cases u1
          obtain ⟨b2, ys, w1, w2, w3⟩ := rs.seqL (.inl c.2)
          rw [x.pre _ _ hb] at w1; cases w1
          exact ⟨xs, ys, u2, w2, u3, w3⟩
        refine ⟨pa, pb, us, ws, rfl, .inl ⟨q2, k2, h φ1 H1 x1 rs1 _ ⟨fun i φ2 H2 S2 hi x2 rs2 c => ?_, fun φ2 H2 S2 x2 rs2 c => ?_, fun i φ2 H2 S2 v H' hi x2 rs2 c y => ?_⟩⟩⟩
        · obtain ⟨xs, ys, g1, g2, g3, g4⟩ := get φ2 H2 S2 x2 rs2 c
          rw [zipD_len] at hi
          have h1 : i < xs.length := by rw [g3.length]; omega
          have h2 : i < ys.length := by rw [g4.length]; omega
          exact ⟨xs, ys, xs[i], ys[i], g1, g2, List.getElem?_eq_getElem h1, List.getElem?_eq_getElem h2⟩
        · obtain ⟨xs, ys, g1, g2, g3, g4⟩ := get φ2 H2 S2 x2 rs2 c
          refine ⟨xs, ys, g1, g2, ?_⟩
          rw [zipD_len, g3.length, g4.length]
          omega
        · obtain ⟨xs, ys, g1, g2, g3, g4⟩ := get φ2 H2 S2 x2 rs2 c
          obtain ⟨T, x, z, rfl, hT, rfl, hx, hz⟩ := y
          obtain ⟨d1, e1, f1⟩ := g3.pt (hx xs g1)
          obtain ⟨d2, e2, f2⟩ := g4.pt (hz ys g2)
          obtain ⟨z1, z2, z3⟩ := duo_new rs2 f1 f2 hT
          exact ⟨_, zipD_get e1 e2, z1, z2, z3⟩
      · exact h.elim
    · exact h.elim
/-- pairs as targets -/
theorem pg_pair {x y : Str} {i j kk : Nat} {ti tj tp : Pos} (hc : X.calm = true) (hx : PG X (.Name x ti) (gName i)) (hy : PG X (.Name y tj) (gName j)) :
    PG X (.Tuple [.Name x ti, .Name y tj] kk tp) (gTup X.K 2 (gCons (gName i) (gCons (gName j) gNil))) :=
  pg_tup hc (pgs_cons hx (pgs_cons hy pgs_nil)) rfl rfl
end
/-- what does not come -/
def sBad : MS := fun _ _ => .bad
theorem ss_bad0 {X : Cx} {W : WX} {st : Stmt} : SS X W st sBad := ⟨fun _ _ _ _ _ _ h => by obtain ⟨_, _, _, _, _, z⟩ := h; exact z.elim⟩
end RL
namespace RL
open PySem PySem.Spec PyProof.Rows L2
/-! ### a comprehension within a comprehension -/
def relabelS (scope sc : Scope) : Scope := { scope with names := scope.names.map fun (n, k) => if (k == .free && sc.kind == .function && sc.names.lookup n == some .cell) then (n, .cell) else (n, k) }
theorem nest1 (S0 : Scope) (N : List Str) {X : Cx} {scope1 scope2 : Scope} {own : List (Str × Nat)} {s : Shared} {H : Hp} {C : Addr} {cl : List (Str × Addr)} {fp : List Addr}
    (h : blkC N (relabelS scope1 S0) scope2 own = true) (e : X.env.scope = S0 := by rfl) (eN : X.N = N := by rfl) : BlkOk (blkX X scope1 s H C cl fp).N (blkX X scope1 s H C cl fp).env.scope scope2 own := by
  subst e eN
  exact blkOk_by h
end RL

namespace RL
open PySem PySem.Spec PyProof.Rows L2

/-! ### <= of tuples of ints -/
theorem lexAt_shift (e r : Nat → Bool) (z : Bool) : ∀ k i, Ob.lexAt e r z (i + 1) k = Ob.lexAt (fun j => e (j + 1)) (fun j => r (j + 1)) z i k
  | 0, _ => rfl
  | k + 1, i => by
    rw [Ob.lexAt_succ, Ob.lexAt_succ, lexAt_shift e r z k (i + 1)]
theorem lexAt_le : ∀ ns ms : List Int, Ob.lexAt (fun j => decide (ns.getD j 0 = ms.getD j 0)) (fun j => decide (ns.getD j 0 ≤ ms.getD j 0)) (decide (ns.length ≤ ms.length)) 0 (min ns.length ms.length) = !HT.lexLt ms ns
  | [], [] => rfl
  | [], _ :: _ => by simp [Ob.lexAt_zero, HT.lexLt]
  | _ :: _, [] => by simp [Ob.lexAt_zero, HT.lexLt]
  | x :: xs, y :: ys => by
    have IH := lexAt_le xs ys
    rw [List.length_cons, List.length_cons, Nat.succ_min_succ, Ob.lexAt_succ, lexAt_shift]
    have e1 : (fun j => decide ((x :: xs).getD (j + 1) 0 = (y :: ys).getD (j + 1) 0)) = fun j => decide (xs.getD j 0 = ys.getD j 0) := by funext j; simp
    have e2 : (fun j => decide ((x :: xs).getD (j + 1) 0 ≤ (y :: ys).getD (j + 1) 0)) = fun j => decide (xs.getD j 0 ≤ ys.getD j 0) := by funext j; simp
    have e3 : decide (xs.length + 1 ≤ ys.length + 1) = decide (xs.length ≤ ys.length) := by simp
    rw [e1, e2, e3, IH]
    simp only [List.getD_cons_zero]
    rw [HT.lexLt_cons]
    by_cases h : x = y
    · subst h; simp
    · have h' : ¬ y = x := fun z => h z.symm
      simp only [h, h', decide_false, Bool.false_eq_true, if_false]
      by_cases h2 : x ≤ y
      · have : ¬ y < x := by omega
        simp [h2, this]
      · have : y < x := by omega
        simp [h2, this]
def oLe2 : D → D → Store → Res D
  | .int i, .int j, S => .ok (.bl (decide (i ≤ j))) S
  | .tup xs, .tup ys, S => match intsOf xs, intsOf ys with
    | some ns, some ms => .ok (.bl (!HT.lexLt ms ns)) S
    | _, _ => .bad
  | _, _, _ => .bad
def rLeAll (K : PySem.W.Frag) : R2 := fun x y H Q => rI0 (fun i j => .bl (decide (i ≤ j))) x y H Q ∨ rLeT K x y H Q
section
variable {X : Cx}
theorem op_le2 (hu : X.A.units + 64 < cLine) : OpR X (compareOp .LtE) (rLeAll X.K) := OpR.or op_le (op_leT (by omega))
theorem od_le2 : OpD X (rLeAll X.K) oLe2 := by
  intro W σ φ H S x y vx vy Q rs rx ry h
  unfold oLe2 at h
  split at h
  · unfold RD at rx ry
    exact .inl ⟨_, _, rx, ry, h.ok rs _ rd_bl⟩
  · unfold RD at rx ry
    obtain ⟨a, as, rfl, ha, ra⟩ := rx
    obtain ⟨b, bs, rfl, hb, rb⟩ := ry
    split at h
    · rename_i ns ms h1 h2
      rw [intsOf_map h1] at ra
      rw [intsOf_map h2] at rb
      have ea := rds_intsV ra
      have eb := rds_intsV rb
      subst ea eb
      refine .inr ⟨a, b, ns, ms, rfl, rfl, ha, hb, ?_⟩
      rw [lexAt_le]
      exact h.ok rs _ rd_bl
    · exact h.elim
  · exact h.elim
end
end RL

namespace RL
open PySem PySem.Spec PyProof.Rows L2

/-! ### dicts whose keys are ints, or tuples of ints and such tuples -/
def lookD {α : Type} (kvs : List (NestedKey × α)) (k : NestedKey) : Option α := (kvs.find? fun kv => decide (kv.1 = k)).map (·.2)
def putD {α : Type} (kvs : List (NestedKey × α)) (k : NestedKey) (d : α) : List (NestedKey × α) :=
  if (lookD kvs k).isSome then kvs.map (fun kv => if kv.1 = k then (kv.1, d) else kv) else kvs ++ [(k, d)]
def isTupK : NestedKey → Bool
  | .tup _ => true
  | _ => false
/-- a key that may stand beside the others -/
def compat {α : Type} (kvs : List (NestedKey × α)) (k : NestedKey) : Bool := kvs.all fun kv => isTupK kv.1 == isTupK k
theorem lookD_cons {α : Type} {p : NestedKey × α} {r : List (NestedKey × α)} {k : NestedKey} : lookD (p :: r) k = if p.1 = k then some p.2 else lookD r k := by
  unfold lookD
  rw [List.find?_cons]
  by_cases h : p.1 = k <;> simp [h]
mutual
def keyN : D → Option NestedKey
  | .int i => some (.num i)
  | .tup ds => match keysN ds with
    | some ks => some (.tup ks)
    | none => none
  | _ => none
def keysN : List D → Option (List NestedKey)
  | [] => some []
  | d :: ds => match keyN d, keysN ds with
    | some k, some ks => some (k :: ks)
    | _, _ => none
end
section
variable {K : PySem.W.Frag} {H : Hp} {φ : List Addr}
mutual
theorem keyN_ky : ∀ (d : D) (k : NestedKey) (v : V), keyN d = some k → RD K H φ d v → KyV K H k v
  | .int i, k, v, e, r => by unfold keyN at e; cases e; unfold RD at r; unfold KyV; exact r
  | .tup ds, k, v, e, r => by
    unfold keyN at e
    cases hk : keysN ds with
    | none => rw [hk] at e; cases e
    | some ks =>
      rw [hk] at e; cases e
      unfold RD at r
      obtain ⟨a, xs, rfl, h1, h2⟩ := r
      unfold KyV
      exact ⟨a, xs, rfl, h1, keysN_ky ds ks xs hk h2⟩
  | .non, _, _, e, _ => by unfold keyN at e; cases e
  | .bl _, _, _, e, _ => by unfold keyN at e; cases e
  | .str _, _, _, e, _ => by unfold keyN at e; cases e
  | .ptr _, _, _, e, _ => by unfold keyN at e; cases e
theorem keysN_ky : ∀ (ds : List D) (ks : List NestedKey) (vs : List V), keysN ds = some ks → RDs K H φ ds vs → KyVs K H ks vs
  | [], ks, vs, e, r => by unfold keysN at e; cases e; unfold RDs at r; unfold KyVs; exact r
  | d :: ds, ks, vs, e, r => by
    unfold keysN at e
    cases h1 : keyN d with
    | none => rw [h1] at e; cases e
    | some k =>
      cases h2 : keysN ds with
      | none => rw [h1, h2] at e; cases e
      | some ks' =>
        rw [h1, h2] at e; cases e
        unfold RDs at r
        obtain ⟨v, vs', rfl, r1, r2⟩ := r
        unfold KyVs
        exact ⟨v, vs', rfl, keyN_ky d k v h1 r1, keysN_ky ds ks' vs' h2 r2⟩
end
mutual
theorem hash_free {w w' : World} : ∀ (k : NestedKey) (v : V), KyV K H k v → k.hash w = k.hash w'
  | .num i, v, h => rfl
  | .tup ks, v, h => by
    unfold KyV at h
    obtain ⟨a, xs, _, _, h2⟩ := h
    unfold NestedKey.hash
    rw [hashes_free ks xs h2]
  | .none, _, h => by unfold KyV at h; exact h.elim
  | .text _, _, h => by unfold KyV at h; exact h.elim
theorem hashes_free {w w' : World} : ∀ (ks : List NestedKey) (vs : List V), KyVs K H ks vs → NestedKey.hashes w ks = NestedKey.hashes w' ks
  | [], _, _ => rfl
  | k :: ks, vs, h => by
    unfold KyVs at h
    obtain ⟨v, vs', _, h1, h2⟩ := h
    unfold NestedKey.hashes
    rw [hash_free k v h1, hashes_free ks vs' h2]
end
/-! both shapes, looked up and put -/
theorem rki_look : ∀ {kvs : List (NestedKey × D)} {ks : List (L2.Key × V)} {i : Int}, RKi K H φ kvs ks → (∀ d, lookD kvs (.num i) = some d → ∃ v, valV ks (Sum.inl i) = some v ∧ RD K H φ d v) ∧ (lookD kvs (.num i) = none → valV ks (Sum.inl i) = none)
  | [], _, _, h => by unfold RKi at h; subst h; exact ⟨fun d e => (by cases e), fun _ => rfl⟩
  | (k, d) :: kvs, _, i, h => by
    unfold RKi at h
    obtain ⟨j, v, r', rfl, rfl, rd, h2⟩ := h
    obtain ⟨a, b⟩ := rki_look (i := i) h2
    rw [lookD_cons]
    by_cases e : (NestedKey.num j) = .num i
    · cases e
      rw [if_pos rfl]
      exact ⟨fun d' e => by cases e; exact ⟨v, valV_pos rfl, rd⟩, fun e => by cases e⟩
    · rw [if_neg e, valV_neg (fun z => e (by cases z; rfl))]
      exact ⟨a, b⟩
theorem rki_any : ∀ {kvs : List (NestedKey × D)} {ks : List (L2.Key × V)} {i : Int} {d : D} {v : V}, RKi K H φ kvs ks → RD K H φ d v → RKi K H φ (kvs.map fun kv => if kv.1 = .num i then (kv.1, d) else kv) (ks.map fun kv => if kv.1 = Sum.inl i then (kv.1, v) else kv)
  | [], _, _, _, _, h, _ => by unfold RKi at h; subst h; unfold RKi; rfl
  | (k, d0) :: kvs, _, i, d, v, h, rd => by
    unfold RKi at h
    obtain ⟨j, v0, r', rfl, rfl, rd0, h2⟩ := h
    have IH := rki_any (i := i) h2 rd
    rw [List.map_cons, List.map_cons]
    by_cases e : j = i
    · subst e
      rw [if_pos rfl, if_pos rfl]
      unfold RKi
      exact ⟨j, v, _, rfl, rfl, rd, IH⟩
    · rw [if_neg (fun z => e (by cases z; rfl)), if_neg (fun z => e (by cases z; rfl))]
      unfold RKi
      exact ⟨j, v0, _, rfl, rfl, rd0, IH⟩
theorem rki_snoc : ∀ {kvs : List (NestedKey × D)} {ks : List (L2.Key × V)} {i : Int} {d : D} {v : V}, RKi K H φ kvs ks → RD K H φ d v → RKi K H φ (kvs ++ [(.num i, d)]) (ks ++ [(Sum.inl i, v)])
  | [], _, i, d, v, h, rd => by
    unfold RKi at h; subst h
    show RKi K H φ [_] [_]
    unfold RKi
    exact ⟨i, v, [], rfl, rfl, rd, by unfold RKi; rfl⟩
  | (k, d0) :: kvs, _, i, d, v, h, rd => by
    unfold RKi at h
    obtain ⟨j, v0, r', rfl, rfl, rd0, h2⟩ := h
    show RKi K H φ ((.num j, d0) :: (kvs ++ [(.num i, d)])) ((Sum.inl j, v0) :: (r' ++ [(Sum.inl i, v)]))
    unfold RKi
    exact ⟨j, v0, _, rfl, rfl, rd0, rki_snoc h2 rd⟩
theorem rki_put {kvs : List (NestedKey × D)} {ks : List (L2.Key × V)} {i : Int} {d : D} {v : V} (h : RKi K H φ kvs ks) (rd : RD K H φ d v) : RKi K H φ (putD kvs (.num i) d) (putK ks (Sum.inl i) v) := by
  obtain ⟨a, b⟩ := rki_look (i := i) h
  unfold putD putK
  rw [valV_any]
  cases e : lookD kvs (.num i) with
  | some x =>
    obtain ⟨y, e2, _⟩ := a x e
    rw [e2]
    simp only [Option.isSome_some, if_true]
    exact rki_any h rd
  | none =>
    rw [b e]
    simp only [Option.isSome_none, Bool.false_eq_true, if_false]
    exact rki_snoc h rd
theorem rki_len : ∀ {kvs : List (NestedKey × D)} {ks : List (L2.Key × V)}, RKi K H φ kvs ks → ks.length = kvs.length
  | [], _, h => by unfold RKi at h; subst h; rfl
  | (k, d) :: kvs, _, h => by
    unfold RKi at h
    obtain ⟨j, v, r', rfl, rfl, _, h2⟩ := h
    rw [List.length_cons, List.length_cons, rki_len h2]
abbrev RelX : NestedKey × Addr × V → NestedKey × Addr × Value → Prop := fun e x => e.1 = x.1 ∧ e.2.1 = x.2.1 ∧ RelV e.2.2 x.2.2
theorem rkx_len : ∀ {kvs : List (NestedKey × D)} {es : List (NestedKey × Addr × V)}, RKx K H φ kvs es → es.length = kvs.length
  | [], _, h => by unfold RKx at h; subst h; rfl
  | (k, d) :: kvs, _, h => by
    unfold RKx at h
    obtain ⟨b, v, r', ks, _, _, rfl, _, _, h2⟩ := h
    rw [List.length_cons, List.length_cons, rkx_len h2]
theorem rkx_look : ∀ {kvs : List (NestedKey × D)} {es : List (NestedKey × Addr × V)} {xs : List (NestedKey × Addr × Value)} {k : NestedKey}, RKx K H φ kvs es → Paired RelX es xs → (∀ d, lookD kvs k = some d → ∃ v b r, atKey xs k = some (b, r) ∧ RelV v r ∧ RD K H φ d v) ∧ (lookD kvs k = none → atKey xs k = none)
  | [], _, _, _, h, p => by
    unfold RKx at h; subst h
    cases p
    exact ⟨fun d e => (by cases e), fun _ => rfl⟩
  | (k0, d0) :: kvs, _, _, k, h, p => by
    unfold RKx at h
    obtain ⟨b, v, r', ks, e0, _, rfl, _, rd, h2⟩ := h
    cases p with
    | @cons _ x _ xs r p =>
      obtain ⟨q1, q2, q3⟩ := r
      obtain ⟨i1, i2⟩ := rkx_look (k := k) h2 p
      rw [lookD_cons]
      unfold atKey at i1 i2 ⊢
      rw [List.find?_cons]
      have q1 : k0 = x.1 := q1
      rw [← q1]
      by_cases e : k0 = k
      · subst e
        simp only [if_true, decide_true, Option.map_some]
        exact ⟨fun d' e => by cases e; exact ⟨v, x.2.1, x.2.2, rfl, q3, rd⟩, fun e => by cases e⟩
      · simp only [e, if_false, decide_false]
        exact ⟨i1, i2⟩
theorem rkx_any : ∀ {kvs : List (NestedKey × D)} {es : List (NestedKey × Addr × V)} {xs : List (NestedKey × Addr × Value)} {k : NestedKey} {d : D} {v : V} {r : Value}, RKx K H φ kvs es → Paired RelX es xs → RD K H φ d v → RelV v r →
    ∃ es', RKx K H φ (kvs.map fun kv => if kv.1 = k then (kv.1, d) else kv) es' ∧ Paired RelX es' (xs.map (putAt k r))
  | [], _, _, _, _, _, _, h, p, _, _ => by
    unfold RKx at h; subst h
    cases p
    exact ⟨[], by unfold RKx; rfl, .nil⟩
  | (k0, d0) :: kvs, _, _, k, d, v, r, h, p, rd, rv => by
    unfold RKx at h
    obtain ⟨b, v0, r', ks, e0, dp, rfl, ky, rd0, h2⟩ := h
    cases p with
    | @cons _ x _ xs q p =>
      obtain ⟨q1, q2, q3⟩ := q
      obtain ⟨es', i1, i2⟩ := rkx_any (k := k) h2 p rd rv
      have q1 : k0 = x.1 := q1
      rw [List.map_cons, List.map_cons]
      unfold putAt at i2 ⊢
      rw [← q1]
      by_cases e : k0 = k
      · simp only [e, if_true]
        refine ⟨(k, b, v) :: es', ?_, .cons ⟨by rw [← e], q2, rv⟩ i2⟩
        unfold RKx
        exact ⟨b, v, es', ks, by rw [← e]; exact e0, by rw [← e]; exact dp, rfl, by rw [← e]; exact ky, rd, i1⟩
      · simp only [e, if_false]
        refine ⟨(k0, b, v0) :: es', ?_, .cons ⟨q1, q2, q3⟩ i2⟩
        unfold RKx
        exact ⟨b, v0, es', ks, e0, dp, rfl, ky, rd0, i1⟩
theorem rkx_snoc : ∀ {kvs : List (NestedKey × D)} {es : List (NestedKey × Addr × V)} {xs : List (NestedKey × Addr × Value)} {k : NestedKey} {ks : List NestedKey} {b : Addr} {d : D} {v : V} {r : Value}, RKx K H φ kvs es → Paired RelX es xs → RD K H φ d v → RelV v r → k = .tup ks → k.depth ≤ 8 → KyV K H k (.ref b) →
    ∃ es', RKx K H φ (kvs ++ [(k, d)]) es' ∧ Paired RelX es' (xs ++ [(k, b, r)])
  | [], _, _, k, ks, b, d, v, r, h, p, rd, rv, ek, dp, ky => by
    unfold RKx at h; subst h
    cases p
    refine ⟨[(k, b, v)], ?_, .cons ⟨rfl, rfl, rv⟩ .nil⟩
    show RKx K H φ [_] _
    unfold RKx
    exact ⟨b, v, [], ks, ek, dp, rfl, ky, rd, by unfold RKx; rfl⟩
  | (k0, d0) :: kvs, _, _, k, ks, b, d, v, r, h, p, rd, rv, ek, dp, ky => by
    unfold RKx at h
    obtain ⟨b0, v0, r', ks0, e0, dp0, rfl, ky0, rd0, h2⟩ := h
    cases p with
    | @cons _ x _ xs q p =>
      obtain ⟨es', i1, i2⟩ := rkx_snoc h2 p rd rv ek dp ky
      refine ⟨(k0, b0, v0) :: es', ?_, .cons q i2⟩
      show RKx K H φ ((k0, d0) :: (kvs ++ [(k, d)])) _
      unfold RKx
      exact ⟨b0, v0, es', ks0, e0, dp0, rfl, ky0, rd0, i1⟩
theorem rkx_put {kvs : List (NestedKey × D)} {es : List (NestedKey × Addr × V)} {xs : List (NestedKey × Addr × Value)} {k : NestedKey} {ks : List NestedKey} {b : Addr} {d : D} {v : V} {r : Value} (h : RKx K H φ kvs es) (p : Paired RelX es xs) (rd : RD K H φ d v) (rv : RelV v r) (ek : k = .tup ks) (dp : k.depth ≤ 8) (ky : KyV K H k (.ref b)) :
    ∃ es', RKx K H φ (putD kvs k d) es' ∧ Paired RelX es' (storedH xs k b r) := by
  obtain ⟨i1, i2⟩ := rkx_look (k := k) h p
  unfold putD storedH
  cases e : lookD kvs k with
  | some x =>
    obtain ⟨_, b', r', e2, _⟩ := i1 x e
    rw [e2]
    simp only [Option.isSome_some, if_true]
    exact rkx_any h p rd rv
  | none =>
    rw [i2 e]
    simp only [Option.isSome_none, Bool.false_eq_true, if_false]
    exact rkx_snoc h p rd rv ek dp ky
end
section
variable {X : Cx} {pins : List (Addr × Obj)} {σ : L2.St} {H : Hp} {φ : List Addr} {s : Shared}
mutual
theorem ky_is (I : Inv X pins σ H s) : ∀ (k : NestedKey) (v : V) (u : Value), KyV X.K H k v → RelV v u → NestedIs s.heap k u
  | .num i, v, u, h, q => by
    unfold KyV at h; subst h
    obtain ⟨t, rfl⟩ := q
    exact .int _ _
  | .tup ks, v, u, h, q => by
    unfold KyV at h
    obtain ⟨a, xs, rfl, h1, h2⟩ := h
    cases q
    obtain ⟨its, rv, ⟨o, ho, hc, n, hd⟩, _⟩ := I.tuple h1
    exact .tup ho hc hd (kys_is I ks xs its h2 rv)
  | .none, _, _, h, _ => by unfold KyV at h; exact h.elim
  | .text _, _, _, h, _ => by unfold KyV at h; exact h.elim
theorem kys_is (I : Inv X pins σ H s) : ∀ (ks : List NestedKey) (vs : List V) (us : List Value), KyVs X.K H ks vs → Vals vs us → NestedAll s.heap ks us
  | [], vs, us, h, q => by
    unfold KyVs at h; subst h
    cases q; exact .nil
  | k :: ks, vs, us, h, q => by
    unfold KyVs at h
    obtain ⟨v, vs', rfl, h1, h2⟩ := h
    cases q with
    | cons q1 q2 => exact .cons (ky_is I k v _ h1 q1) (kys_is I ks vs' _ h2 q2)
end
theorem rkx_is (I : Inv X pins σ H s) : ∀ {kvs : List (NestedKey × D)} {es : List (NestedKey × Addr × V)} {xs : List (NestedKey × Addr × Value)}, RKx X.K H φ kvs es → Paired RelX es xs → ∀ x ∈ xs, (nestedKind X.prog X.w).is s.heap x.1 x.2.1
  | [], _, _, h, p, x, hx => by
    unfold RKx at h; subst h
    cases p; cases hx
  | (k0, d0) :: kvs, _, _, h, p, x, hx => by
    unfold RKx at h
    obtain ⟨b, v0, r', ks, e0, dp, rfl, ky, rd0, h2⟩ := h
    cases p with
    | @cons _ y _ xs q p =>
      rcases List.mem_cons.mp hx with rfl | hx
      · obtain ⟨q1, q2, q3⟩ := q
        have q1 : k0 = x.1 := q1
        have q2 : b = x.2.1 := q2
        rw [← q1, ← q2]
        exact ⟨ky_is I _ _ _ ky rfl, dp⟩
      · exact rkx_is I h2 p x hx
theorem rkx_hash {P P' : Program} {w w' : World} : ∀ {kvs : List (NestedKey × D)} {es : List (NestedKey × Addr × V)} {xs : List (NestedKey × Addr × Value)}, RKx X.K H φ kvs es → Paired RelX es xs → xs.map (entryOfKey (nestedKind P w)) = xs.map (entryOfKey (nestedKind P' w'))
  | [], _, _, h, p => by
    unfold RKx at h; subst h
    cases p; rfl
  | (k0, d0) :: kvs, _, _, h, p => by
    unfold RKx at h
    obtain ⟨b, v0, r', ks, e0, dp, rfl, ky, rd0, h2⟩ := h
    cases p with
    | @cons _ y _ xs q p =>
      have q1 : k0 = y.1 := q.1
      rw [List.map_cons, List.map_cons, rkx_hash (P := P) (P' := P') (w := w) (w' := w') h2 p]
      congr 1
      unfold entryOfKey
      congr 1
      show NestedKey.hash w y.1 = NestedKey.hash w' y.1
      rw [← q1]
      exact hash_free k0 _ ky
/-- a dict with tuple keys as the library has it; the empty one is of both kinds -/
theorem dict_at (I : Inv X pins σ H s) {kvs : List (NestedKey × D)} {a : Addr} (h : RC X.K H φ (.dcx kvs) a) (ht : ∀ kv ∈ kvs, isTupK kv.1 = true) :
    ∃ es xs, RKx X.K H φ kvs es ∧ Paired RelX es xs ∧ s.heap.DictOfH (nestedKind X.prog X.w) a xs ∧ (a == sysModules) = false ∧ kvs.length ≤ sizeLine ∧ Mut (H a) ∧ ∃ u, H a = some u ∧ NoTup u := by
  rcases h with ⟨ks, e, r⟩ | ⟨es, _, hl, hs, e, r⟩
  · cases kvs with
    | nil =>
      unfold RKi at r; subst r
      obtain ⟨_, hs, vs, rel, o, ds, ep, ho, hx, hd, _, hp, _⟩ := I.hok a _ e
      cases rel
      refine ⟨[], [], by unfold RKx; rfl, .nil, ⟨o, ds, ep, ho, hx, hd, ?_, fun _ z => (by cases z), List.nodup_nil⟩, hs, Nat.zero_le _, by rw [e]; trivial, _, e, NoTup.dK⟩
      cases hds : ds.toList with
      | nil => rfl
      | cons d l => rw [hds] at hp; cases hp
    | cons kv kvs =>
      obtain ⟨k, d⟩ := kv
      unfold RKi at r
      obtain ⟨i, v, r', rfl, _, _, _⟩ := r
      have := ht _ List.mem_cons_self
      cases this
  · obtain ⟨⟨xs, p, o, ds, ep, ho, hx, hd, he, hn⟩, _, _⟩ := I.hok a _ e
    exact ⟨es, xs, r, p, ⟨o, ds, ep, ho, hx, hd, he _ _, rkx_is I r p, hn⟩, hs, hl, by rw [e]; trivial, _, e, NoTup.dX⟩
/-- what is known behind a store -/
theorem dict_new {H' : Hp} {h' : Heap} {kvs : List (NestedKey × D)} {es : List (NestedKey × Addr × V)} {xs : List (NestedKey × Addr × Value)} {a : Addr} {P : Program} {w : World} (r : RKx X.K H φ kvs es) (p : Paired RelX es xs) (dd : h'.DictOfH (nestedKind P w) a xs) : ObjOk X.prog X.w H' h' a (DXo a es) := by
  obtain ⟨o, ds, ep, ho, hx, hd, he, _, hn⟩ := dd
  exact ⟨⟨xs, p, o, ds, ep, ho, hx, hd, fun P' w' => he.trans (rkx_hash r p), hn⟩, ⟨o, ho⟩, fun h1 h2 ⟨xs', p', o', ds', ep', q1, q2⟩ st => ⟨xs', p', o', ds', ep', st _ q1, q2⟩⟩
end
/-! ### methods of dicts, items -/
def isDcx (S : Store) : D → Bool
  | .ptr n => match S[n]? with
    | some (.dcx _) => true
    | _ => false
  | _ => false
/-- what a value must be that a dict's method is asked of -/
def TyD (H : Hp) (x : V) : Prop := ∃ a, x = .ref a ∧ ((∃ ks, H a = some (.dK ks)) ∨ ∃ es, H a = some (DXo a es))
theorem tyD_at {X : Cx} {pins : List (Addr × Obj)} {σ : L2.St} {H : Hp} {s : Shared} {x : V} {u : Value} (I : Inv X pins σ H s) (h : TyD H x) (r : RelV x u) : s.TypeIs u "dict" ∧ ∀ b, u = .ref b → ∃ ob, s.heap.get? b = some ob ∧ ob.dict = none := by
  obtain ⟨a, rfl, ⟨ks, e⟩ | ⟨es, e⟩⟩ := h
  · cases r
    obtain ⟨_, _, vs, _, o, _, _, ho, hx, _⟩ := I.hok a _ e
    exact ⟨⟨o, ho, hx.1⟩, fun b q => by cases q; exact ⟨o, ho, hx.2.1⟩⟩
  · cases r
    obtain ⟨⟨xs, _, o, _, _, ho, hx, _⟩, _, _⟩ := I.hok a _ e
    exact ⟨⟨o, ho, hx.1⟩, fun b q => by cases q; exact ⟨o, ho, hx.2.1⟩⟩
theorem rc_tyD {K : PySem.W.Frag} {H : Hp} {φ : List Addr} {S : Store} {o : D} {x : V} (rs : RS K H φ S) (rd : RD K H φ o x) (h : isDcx S o = true) : TyD H x := by
  cases o <;> try (cases h; done)
  rename_i n
  unfold RD at rd
  obtain ⟨a, ha, rfl⟩ := rd
  unfold isDcx at h
  simp only at h
  split at h
  · rename_i kvs hS
    obtain ⟨a', q1, q2⟩ := rs.at hS
    rw [ha] at q1; cases q1
    rcases q2 with ⟨ks, e, _⟩ | ⟨es, _, _, _, e, _⟩
    · exact ⟨a, rfl, .inl ⟨ks, e⟩⟩
    · exact ⟨a, rfl, .inr ⟨es, e⟩⟩
  · cases h
/-- a method of a dict with two arguments, over the store -/
def DM2 (X : Cx) (id : String) (f : D → D → D → Store → Res D) : Prop := ∀ (W : WX) (pins : List (Addr × Obj)) (σ : L2.St) (φ : List Addr) (H : Hp) (s : Shared) (S : Store) (o k x : D) (vo vk vx : V) (u w r : Value) (Q : VK),
  Inv X pins σ H s → RS X.K H φ S → RD X.K H φ o vo → RD X.K H φ k vk → RD X.K H φ x vx → RelV vo u → RelV vk w → RelV vx r →
  LK X W σ φ H (f o k x S) (fun d _ φ' H' => ∀ v, RD X.K H' φ' d v → Q v H') → wpAny (model X.prog X.w) X.A (call (.builtin id) [u, w, r]) (EP X pins σ Q) X.xe s
def eDt2 (f : D → D → D → Store → Res D) (mo mk mx : ME) : ME := fun ρ S => (mo ρ S).bind fun o S1 => if isDcx S1 o = true then (mk ρ S1).bind fun k S2 => (mx ρ S2).bind fun x S3 => f o k x S3 else .bad
section
variable {X : Cx} {W : WX} {k' : Nat} {o e f : Expr} {apos cpos : Pos} {mo me mf : ME}
theorem se_dm2 {name : Str} {id : String} {g : D → D → D → Store → Res D} (slot : Slot "dict" name id) (hty : typeOf (.builtin id) = pure (.type "method_descriptor")) (hg : DM2 X id g) (ho : SE X W o mo) (he : SE X W e me) (hf : SE X W f mf) (m : M2 X o name apos e f cpos) :
    SE X W (.Call (.Attribute o name apos) [e, f] [] cpos) (eDt2 g mo me mf) := by
  refine ⟨fun pins s σ H Q I h => ?_⟩
  obtain ⟨φ, ρ, S, re, rs, h⟩ := h
  have key : LE X W mo σ H fun x H1 => TyD H1 x ∧ LE X W me σ H1 fun y H2 => LE X W mf σ H2 fun z H3 => ∀ pins s u w r, Inv X pins σ H3 s → RelV x u → RelV y w → RelV z r → wpAny (model X.prog X.w) X.A (call (.builtin id) [u, w, r]) (EP X pins σ Q) X.xe s := by
    refine LE.to re rs h fun x S1 φ1 H1 v x1 rs1 re1 rd h1 => ?_
    split at h1
    · rename_i hl
      exact ⟨rc_tyD rs1 rd hl, LE.to re1 rs1 h1 fun y S2 φ2 H2 vy x2 rs2 re2 ry h2 => LE.to re2 rs2 h2 fun z S3 φ3 H3 vz x3 rs3 re3 rz h3 pins s u w r I r1 r2 r3 =>
        hg W pins σ φ3 H3 s S3 x y z v vy vz u w r Q I rs3 (rd.mono (x2.trans x3)) (ry.mono x3) rz r1 r2 r3 h3⟩
    · exact h1.elim
  refine wpAny_Call_method m.base m.few m.line PySem.F.plainAttrs_dict slot hty (thn (ho.run pins s σ H _ I key) fun u s1 ⟨x, H1, I1, rx, d, q1⟩ => ?_)
  obtain ⟨t1, t2⟩ := tyD_at I1 d rx
  refine ⟨t1, t2, ?_⟩
  rw [m.trees]
  exact Calls.callWith_builtin rfl (Calls.evalArgs_plain (Calls.spliced_cons (thn (he.run pins s1 σ H1 _ I1 q1) fun w s2 ⟨y, H2, I2, ry, q2⟩ =>
    Calls.spliced_cons (thn (hf.run pins s2 σ H2 _ I2 q2) fun r s3 ⟨z, H3, I3, rz, q3⟩ => Calls.spliced_nil (q3 pins s3 u w r I3 rx ry rz)))))
end
/-- d.setdefault(k, x), d.get(k, x) -/
def fSetd (o k x : D) (S : Store) : Res D := match o, keyN k with
  | .ptr n, some ky => match S[n]? with
    | some (.dcx kvs) => if compat kvs ky = true ∧ ky.depth ≤ 8 ∧ kvs.length < sizeLine then match lookD kvs ky with
        | some d => .ok d S
        | none => .ok x (S.set n (.dcx (putD kvs ky x)))
      else .bad
    | _ => .bad
  | _, _ => .bad
def fGetd (o k x : D) (S : Store) : Res D := match o, keyN k with
  | .ptr n, some ky => match S[n]? with
    | some (.dcx kvs) => if compat kvs ky = true ∧ ky.depth ≤ 8 then match lookD kvs ky with
        | some d => .ok d S
        | none => .ok x S
      else .bad
    | _ => .bad
  | _, _ => .bad
theorem compat_tup {α : Type} {kvs : List (NestedKey × α)} {ks : List NestedKey} (h : compat kvs (.tup ks) = true) : ∀ kv ∈ kvs, isTupK kv.1 = true := fun kv hkv => by
  have := List.all_eq_true.mp h kv hkv
  simpa [isTupK] using this
theorem compat_num {α : Type} {kvs : List (NestedKey × α)} {i : Int} (h : compat kvs (.num i) = true) : ∀ kv ∈ kvs, isTupK kv.1 = false := fun kv hkv => by
  have := List.all_eq_true.mp h kv hkv
  simpa [isTupK] using this
theorem keyN_shape {d : D} {k : NestedKey} (h : keyN d = some k) : (∃ i, d = .int i ∧ k = .num i) ∨ ∃ ds ks, d = .tup ds ∧ k = .tup ks := by
  cases d with
  | int i => unfold keyN at h; cases h; exact .inl ⟨i, rfl, rfl⟩
  | tup ds =>
    unfold keyN at h
    cases hk : keysN ds with
    | none => rw [hk] at h; cases h
    | some ks => rw [hk] at h; cases h; exact .inr ⟨ds, ks, rfl, rfl⟩
  | _ => unfold keyN at h; cases h
theorem putD_len {α : Type} (kvs : List (NestedKey × α)) (k : NestedKey) (d : α) : (putD kvs k d).length ≤ kvs.length + 1 := by
  unfold putD
  split
  · rw [List.length_map]; omega
  · rw [List.length_append]; simp
theorem putD_ne {α : Type} (kvs : List (NestedKey × α)) (k : NestedKey) (d : α) : putD kvs k d ≠ [] := by
  unfold putD
  split
  · rename_i h
    intro e
    have : kvs = [] := by simpa using e
    subst this
    cases h
  · simp
/-- what the store holds of a dict, by the kind of its keys -/
theorem dcx_num {K : PySem.W.Frag} {H : Hp} {φ : List Addr} {kvs : List (NestedKey × D)} {a : Addr} {i : Int} (h : RC K H φ (.dcx kvs) a) (hc : compat kvs (.num i) = true) : ∃ ks, H a = some (.dK ks) ∧ RKi K H φ kvs ks := by
  rcases h with h | ⟨es, hne, _, _, _, r⟩
  · exact h
  · cases kvs with
    | nil => exact absurd rfl hne
    | cons kv kvs =>
      obtain ⟨k, d⟩ := kv
      unfold RKx at r
      obtain ⟨b, v, r', ks, rfl, _⟩ := r
      have := compat_num hc _ List.mem_cons_self
      cases this
theorem dm_setd {X : Cx} (hu : X.A.units + 16 < cLine) : DM2 X "dict.setdefault" fSetd := by
  intro W pins σ φ H s S o k x vo vk vx u w r Q I rs ro rk rx q1 q2 q3 h
  unfold fSetd at h
  split at h
  · rename_i n ky hk
    split at h
    · rename_i kvs hS
      split at h
      · rename_i hc
        obtain ⟨hc, hdp, hlen⟩ := hc
        unfold RD at ro
        obtain ⟨a, ha, rfl⟩ := ro
        cases q1
        obtain ⟨a', p1, rc⟩ := rs.at hS
        rw [ha] at p1; cases p1
        rcases keyN_shape hk with ⟨i, rfl, rfl⟩ | ⟨ds, ks, rfl, rfl⟩
        · unfold RD at rk; subst rk
          obtain ⟨ks, e, rki⟩ := dcx_num rc hc
          obtain ⟨l1, l2⟩ := rki_look (i := i) rki
          refine d_setd (k := Sum.inl i) I e q2 q3 (by rw [rki_len rki]; exact hlen) (fun v hv w' s' I' rw' => ?_) fun hn w' s' I' rw' => ?_
          · cases hl : lookD kvs (.num i) with
            | none => rw [l2 hl] at hv; cases hv
            | some d =>
              obtain ⟨v', e2, rd⟩ := l1 d hl
              rw [hv] at e2; cases e2
              rw [hl] at h
              exact ⟨v, H, I', rw', h φ H Ext.refl rs v rd⟩
          · cases hl : lookD kvs (.num i) with
            | some d =>
              obtain ⟨v', e2, rd⟩ := l1 d hl
              rw [hn] at e2; cases e2
            | none =>
              rw [hl] at h
              have xx : Ext X.K φ H φ (upd H a (.dK (putK ks (Sum.inl i) vx))) := Ext.put e NoTup.dK
              obtain ⟨w1, w2⟩ := rs.writeG (c' := .dcx (putD kvs (.num i) x)) (o := .dK (putK ks (Sum.inl i) vx)) hS rfl rfl ha e NoTup.dK (.inl ⟨_, upd_same, RKi.mono xx _ _ (rki_put rki rx)⟩)
              exact ⟨vx, _, I', rw', h φ _ w2 w1 vx (rx.mono w2)⟩
        · have rk' := keyN_ky _ _ _ hk rk
          have rk2 := rk'
          unfold KyV at rk2
          obtain ⟨b, bs, rfl, _, _⟩ := rk2
          cases q2
          obtain ⟨es, xs, rkx, px, dd, hsys, _, mu, u0, eu, nt⟩ := dict_at I rc (compat_tup hc)
          obtain ⟨l1, l2⟩ := rkx_look (k := .tup ks) rkx px
          have lx : xs.length = kvs.length := by rw [← Paired.length px, rkx_len rkx]
          refine call_setdefault_heap (knd := nestedKind X.prog X.w) (hsz := by rw [lx]; omega) (by show X.A.units + 1 + 8 < cLine; omega) (k := .tup ks) ⟨ky_is I _ _ _ rk' rfl, hdp⟩ hsys dd (fun p hp => ?_) fun hn h' dd' hs => ?_
          · cases hl : lookD kvs (.tup ks) with
            | none => rw [l2 hl] at hp; cases hp
            | some d =>
              obtain ⟨v', b', r', e2, rv, rd⟩ := l1 d hl
              rw [hp] at e2; cases e2
              rw [hl] at h
              exact ⟨v', H, I.tok _, rv, h φ H Ext.refl rs v' rd⟩
          · cases hl : lookD kvs (.tup ks) with
            | some d =>
              obtain ⟨v', b', r', e2, _⟩ := l1 d hl
              rw [hn] at e2; cases e2
            | none =>
              rw [hl] at h
              obtain ⟨es', rkx', px'⟩ := rkx_put rkx px rx q3 rfl hdp rk'
              have he : ∃ q, h'.get? a = some q := let ⟨q, _, _, hq, _⟩ := dd'; ⟨q, hq⟩
              have xx : Ext X.K φ H φ (upd H a (DXo a es')) := Ext.put eu nt
              have I' := d_write (t' := s.toks + (nestedKind X.prog X.w).draws (.tup ks)) (ob := DXo a es') I mu hs he (dict_new rkx' px' dd')
              obtain ⟨w1, w2⟩ := rs.writeG (c' := .dcx (putD kvs (.tup ks) x)) (o := DXo a es') hS rfl rfl ha eu nt (.inr ⟨es', putD_ne _ _ _, Nat.le_trans (putD_len _ _ _) hlen, hsys, upd_same, RKx.mono xx _ _ rkx'⟩)
              exact ⟨vx, _, I', q3, h φ _ w2 w1 vx (rx.mono w2)⟩
      · exact h.elim
    · exact h.elim
  · exact h.elim
end RL

namespace RL
open PySem PySem.Spec PyProof.Rows L2

/-! ### a dict locked while an expression runs -/
section
variable {K : PySem.W.Frag} {H H' : Hp} {φ : List Addr}
mutual
theorem RD.monoT (ht : ∀ a xs, SqT K H a xs → SqT K H' a xs) : ∀ (d : D) (v : V), RD K H φ d v → RD K H' φ d v
  | .non, _, h => h
  | .bl _, _, h => h
  | .int _, _, h => h
  | .str _, _, h => h
  | .tup ds, _, h => by
    unfold RD at h ⊢
    obtain ⟨a, xs, e, s, r⟩ := h
    exact ⟨a, xs, e, ht _ _ s, RDs.monoT ht ds xs r⟩
  | .ptr n, _, h => by unfold RD at h ⊢; exact h
theorem RDs.monoT (ht : ∀ a xs, SqT K H a xs → SqT K H' a xs) : ∀ (ds : List D) (vs : List V), RDs K H φ ds vs → RDs K H' φ ds vs
  | [], _, h => h
  | d :: ds, _, h => by
    unfold RDs at h ⊢
    obtain ⟨v, vs', e, r, s⟩ := h
    exact ⟨v, vs', e, RD.monoT ht d v r, RDs.monoT ht ds vs' s⟩
end
theorem RKv.monoT (ht : ∀ a xs, SqT K H a xs → SqT K H' a xs) : ∀ (ds : List (L2.Key × D)) (vs : List (L2.Key × V)), RKv K H φ ds vs → RKv K H' φ ds vs
  | [], _, h => h
  | (k, d) :: ds, _, h => by
    unfold RKv at h ⊢
    obtain ⟨v, vs', e, r, s⟩ := h
    exact ⟨v, vs', e, RD.monoT ht d v r, RKv.monoT ht ds vs' s⟩
mutual
theorem KyV.monoT (ht : ∀ a xs, SqT K H a xs → SqT K H' a xs) : ∀ (k : NestedKey) (v : V), KyV K H k v → KyV K H' k v
  | .none, _, h => by unfold KyV at h; exact h.elim
  | .text _, _, h => by unfold KyV at h; exact h.elim
  | .num _, _, h => by unfold KyV at h ⊢; exact h
  | .tup ks, _, h => by
    unfold KyV at h ⊢
    obtain ⟨a, xs, e, s, r⟩ := h
    exact ⟨a, xs, e, ht _ _ s, KyVs.monoT ht ks xs r⟩
theorem KyVs.monoT (ht : ∀ a xs, SqT K H a xs → SqT K H' a xs) : ∀ (ks : List NestedKey) (vs : List V), KyVs K H ks vs → KyVs K H' ks vs
  | [], _, h => by unfold KyVs at h ⊢; exact h
  | k :: ks, _, h => by
    unfold KyVs at h ⊢
    obtain ⟨v, vs', e, r, s⟩ := h
    exact ⟨v, vs', e, KyV.monoT ht k v r, KyVs.monoT ht ks vs' s⟩
end
theorem RKi.monoT (ht : ∀ a xs, SqT K H a xs → SqT K H' a xs) : ∀ (ds : List (NestedKey × D)) (vs : List (L2.Key × V)), RKi K H φ ds vs → RKi K H' φ ds vs
  | [], _, h => by unfold RKi at h ⊢; exact h
  | (k, d) :: ds, _, h => by
    unfold RKi at h ⊢
    obtain ⟨i, v, r', e1, e2, r, s⟩ := h
    exact ⟨i, v, r', e1, e2, RD.monoT ht d v r, RKi.monoT ht ds r' s⟩
theorem RKx.monoT (ht : ∀ a xs, SqT K H a xs → SqT K H' a xs) : ∀ (ds : List (NestedKey × D)) (vs : List (NestedKey × Addr × V)), RKx K H φ ds vs → RKx K H' φ ds vs
  | [], _, h => by unfold RKx at h ⊢; exact h
  | (k, d) :: ds, _, h => by
    unfold RKx at h ⊢
    obtain ⟨b, v, r', ks, e1, e2, e3, r, r2, s⟩ := h
    exact ⟨b, v, r', ks, e1, e2, e3, KyV.monoT ht k _ r, RD.monoT ht d v r2, RKx.monoT ht ds r' s⟩
theorem RC.keepT (ht : ∀ a xs, SqT K H a xs → SqT K H' a xs) {c : Cell} {a : Addr} (hb : ∀ v, H a = some v → H' a = some v) (h : RC K H φ c a) : RC K H' φ c a := by
  cases c with
  | lst ds => obtain ⟨xs, e, r⟩ := h; exact ⟨xs, hb _ e, RDs.monoT ht _ _ r⟩
  | rol ds =>
    obtain ⟨xs, ⟨o, e⟩ | e, r⟩ := h
    · exact ⟨xs, .inl ⟨o, hb _ e⟩, RDs.monoT ht _ _ r⟩
    · exact ⟨xs, .inr e, RDs.monoT ht _ _ r⟩
  | dct kvs => obtain ⟨ks, e, r⟩ := h; exact ⟨ks, hb _ e, RKv.monoT ht _ _ r⟩
  | dcx kvs =>
    rcases h with ⟨ks, e, r⟩ | ⟨es, h1, h2, h3, e, r⟩
    · exact .inl ⟨ks, hb _ e, RKi.monoT ht _ _ r⟩
    · exact .inr ⟨es, h1, h2, h3, hb _ e, RKx.monoT ht _ _ r⟩
  | rox kvs =>
    obtain ⟨o, ⟨ks, e, r⟩ | ⟨es, h3, e, r⟩⟩ := h
    · exact ⟨o, .inl ⟨ks, hb _ e, RKi.monoT ht _ _ r⟩⟩
    · exact ⟨o, .inr ⟨es, h3, hb _ e, RKx.monoT ht _ _ r⟩⟩
theorem SqT.unl {p : Addr} {od : Obj} {u o : HO} (hp : H p = some (.frz od u)) (hu : NoTup u) {a : Addr} {xs : List V} (h : SqT K H a xs) : SqT K (upd H p o) a xs := by
  rcases h with (h | ⟨w, h⟩) | h
  · exact .inl (.inl (by rw [upd_ne (fun z => by rw [z, hp] at h; cases h)]; exact h))
  · exact .inl (.inr ⟨w, by rw [upd_ne (fun z => by rw [z, hp] at h; cases h; exact hu.1 _ rfl)]; exact h⟩)
  · exact .inr h
theorem RS.unlock {S : Store} (r : RS K H φ S) {n : Nat} {a : Addr} {od : Obj} {u : HO} {kvs : List (NestedKey × D)} (h0 : S[n]? = some (.rox kvs)) (hn : φ[n]? = some a) (ha : H a = some (.frz od u)) (hu : NoTup u) (hl : ∀ xs, u ≠ .lst xs) (hc : RC K (upd H a u) φ (.dcx kvs) a) :
    RS K (upd H a u) φ (S.set n (.dcx kvs)) := by
  have hl0 : n < S.length := (List.getElem?_eq_some_iff.mp h0).1
  have back : ∀ (m : Nat) (c : Cell), (S.set n (.dcx kvs))[m]? = some c → ∃ d, S[m]? = some d ∧ (m ≠ n → d = c) ∧ (m = n → c = .dcx kvs) ∧ (c.mut = true → d.mut = true) := fun m c h => by
    by_cases hm : n = m
    · subst hm
      rw [List.getElem?_set_self hl0] at h
      cases h
      exact ⟨_, h0, fun z => (z rfl).elim, fun _ => rfl, fun _ => rfl⟩
    · rw [List.getElem?_set_ne hm] at h
      exact ⟨c, h, fun _ => rfl, fun z => (hm z.symm).elim, fun z => z⟩
  refine ⟨by rw [r.len, List.length_set], fun m1 m2 b c1 c2 h1 h2 h3 h4 q1 q2 => ?_, fun m c b h1 h2 => ?_⟩
  · obtain ⟨d1, e1, _, _, f1⟩ := back m1 c1 h1
    obtain ⟨d2, e2, _, _, f2⟩ := back m2 c2 h2
    exact r.nd m1 m2 b d1 d2 e1 e2 h3 h4 (f1 q1) (f2 q2)
  · obtain ⟨d, e, f1, f2, _⟩ := back m c h1
    have ht : ∀ b xs, SqT K H b xs → SqT K (upd H a u) b xs := fun b xs => SqT.unl ha hu
    by_cases hm : m = n
    · have := f2 hm
      subst this hm
      rw [hn] at h2; cases h2
      exact hc
    · have := f1 hm
      subst this
      have rc := r.cell m d b e h2
      by_cases hb : b = a
      · subst hb
        cases hd : d.mut with
        | true => exact (hm (r.nd m n b d _ e h0 h2 hn hd rfl)).elim
        | false =>
          cases d <;> try (cases hd; done)
          obtain ⟨xs, ⟨o, q⟩ | q, r'⟩ := rc
          · rw [ha] at q; cases q; exact (hl _ rfl).elim
          · exact ⟨xs, .inr q, RDs.monoT ht _ _ r'⟩
      · exact rc.keepT ht fun v hv => by rw [upd_ne hb]; exact hv
end
open Classical in
noncomputable def eLockM (i : Nat) (m : ME) : ME := fun ρ S => match ρ[i]? with
  | some (some (.ptr n)) => match S[n]? with
    | some (.dcx kvs) => match m ρ (S.set n (.rox kvs)) with
      | .ok d S1 => if S1[n]? = some (.rox kvs) then .ok d (S1.set n (.dcx kvs)) else .bad
      | _ => .bad
    | _ => .bad
  | _ => .bad
section
variable {X : Cx} {W : WX} {k' : Nat} {o e f tg : Expr} {apos cpos pos : Pos} {mo me mf : ME}
theorem se_lock (i : Nat) (he : SE X W e me) : SE X W e (eLockM i me) := by
  refine (pe_lock he).imp fun σ H Q => ?_
  rintro ⟨φ, ρ, S, re, rs, h⟩
  unfold eLockM at h
  split at h
  · rename_i n hn
    split at h
    · rename_i kvs hS
      obtain ⟨a, ha, rc⟩ := rs.at hS
      have key : ∃ u, H a = some u ∧ Mut (some u) ∧ NoTup u ∧ (∀ xs, u ≠ .lst xs) ∧ ((∃ ks, u = .dK ks ∧ RKi X.K H φ kvs ks) ∨ ∃ es, kvs ≠ [] ∧ kvs.length ≤ sizeLine ∧ (a == sysModules) = false ∧ u = DXo a es ∧ RKx X.K H φ kvs es) := by
        rcases rc with ⟨ks, e, r⟩ | ⟨es, h1, h2, h3, e, r⟩
        · exact ⟨_, e, trivial, NoTup.dK, fun _ z => (by cases z), .inl ⟨ks, rfl, r⟩⟩
        · exact ⟨_, e, trivial, NoTup.dX, fun _ z => (by cases z), .inr ⟨es, h1, h2, h3, rfl, r⟩⟩
      obtain ⟨u, hu, mu, nt, nl, kd⟩ := key
      refine ⟨a, u, hu, mu, fun od => ?_⟩
      have x0 : Ext X.K φ H φ (upd H a (.frz od u)) := Ext.put hu nt
      have rs0 : RS X.K (upd H a (.frz od u)) φ (S.set n (.rox kvs)) := by
        refine (rs.writeG (c' := .rox kvs) (o := .frz od u) hS rfl rfl ha hu nt ⟨od, ?_⟩).1
        rcases kd with ⟨ks, rfl, r⟩ | ⟨es, _, _, h3, rfl, r⟩
        · exact .inl ⟨ks, upd_same, RKi.mono x0 _ _ r⟩
        · exact .inr ⟨es, h3, upd_same, RKx.mono x0 _ _ r⟩
      refine ⟨φ, ρ, S.set n (.rox kvs), re.mono x0, rs0, ?_⟩
      cases hm : me ρ (S.set n (.rox kvs)) with
      | ok d S1 =>
        rw [hm] at h
        intro φ1 H1 x1 rs1 v rd
        have f1 : H1 a = some (.frz od u) := x1.frz a od u upd_same
        refine ⟨f1, ?_⟩
        simp only at h
        split at h
        · rename_i h1
          have xx : Ext X.K φ H φ1 (upd H1 a u) := ⟨x1.pre, fun b xs q => SqT.unl f1 nt (x1.tup _ _ (x0.tup _ _ q)), fun b o w q => by
            rw [upd_ne (fun z => by rw [z, hu] at q; cases q; exact nt.2 _ _ rfl)]
            exact x1.frz _ _ _ (x0.frz _ _ _ q)⟩
          have rc' : RC X.K (upd H1 a u) φ1 (.dcx kvs) a := by
            rcases kd with ⟨ks, rfl, r⟩ | ⟨es, q1, q2, q3, rfl, r⟩
            · exact .inl ⟨ks, upd_same, RKi.mono xx _ _ r⟩
            · exact .inr ⟨es, q1, q2, q3, upd_same, RKx.mono xx _ _ r⟩
          exact h φ1 _ xx (rs1.unlock h1 (x1.pre _ _ ha) f1 nt nl rc') v (RD.monoT (fun b xs => SqT.unl f1 nt) _ _ rd)
        · exact h.elim
      | exn y S1 => rw [hm] at h; exact h.elim
      | bad => rw [hm] at h; exact h.elim
    · exact h.elim
  · exact h.elim

theorem Ctx.hu {k : Nat} (c : Ctx X W k) : X.A.units + 16 < cLine := by have := c.hr.units; omega
/-- {}: to be filled with keys of one kind -/
def eDictN : ME := fun _ S => .ok (.ptr S.length) (S ++ [.dcx []])
theorem se_dictN : SE X W (.Dict [] [] pos) eDictN := by
  refine pe_dnewK.imp fun σ H Q => ?_
  rintro ⟨φ, ρ, S, re, rs, h⟩
  intro p hp
  refine h _ _ (Ext.newC hp) (rs.newC hp (.inl ⟨[], upd_same, by unfold RKi; rfl⟩)) _ ?_
  unfold RD
  exact ⟨p, by rw [← rs.len, List.getElem?_append_right (Nat.le_refl _), Nat.sub_self]; rfl, rfl⟩
/-! ### the values of a locked dict -/
def ValsU (d : Addr) (u : HO) (vs : List V) : Prop := (∃ ks, u = .dK ks ∧ vs = ks.map (·.2)) ∨ ∃ es, (d == sysModules) = false ∧ u = DXo d es ∧ vs = es.map (·.2.2)
theorem pairs_vals {P : Program} {w : World} : ∀ {es : List DictEntry} {ks : List (L2.Key × V)} {vs : List (L2.Key × Value)}, Pairs (mixKind P w) es vs → KV ks vs → Paired RelV (ks.map (·.2)) (es.map (·.val))
  | _, _, _, .nil, .nil => .nil
  | _, _, _, .cons p1 p2 p3, .cons q1 q3 => .cons (by have h := q1.2; rw [← p2] at h; exact h) (pairs_vals p3 q3)
theorem entries_vals {P : Program} {w : World} : ∀ {es : List (NestedKey × Addr × V)} {xs : List (NestedKey × Addr × Value)}, Paired RelX es xs → Paired RelV (es.map (·.2.2)) ((xs.map (entryOfKey (nestedKind P w))).map (·.val))
  | _, _, .nil => .nil
  | _, _, .cons q r => .cons q.2.2 (entries_vals r)
theorem rawV {X : Cx} {pins : List (Addr × Obj)} {σ : L2.St} {H : Hp} {s : Shared} {d : Addr} {o : Obj} {u : HO} {vs : List V} (I : Inv X pins σ H s) (h : H d = some (.frz o u)) (hv : ValsU d u vs) :
    (d == sysModules) = false ∧ s.heap.get? d = some o ∧ o.ExactDict ∧ ∃ (es : Array DictEntry) (ep : Nat), o.data = .dict es ep ∧ es.size = vs.length ∧ ∀ i v, vs[i]? = some v → ∃ hi : i < es.size, RelV v es[i].val := by
  have fin : ∀ (es : Array DictEntry), Paired RelV vs (es.toList.map (·.val)) → es.size = vs.length ∧ ∀ i v, vs[i]? = some v → ∃ hi : i < es.size, RelV v es[i].val := fun es p => by
    have hl : vs.length = es.size := by simpa using Paired.length p
    refine ⟨hl.symm, fun i v e => ?_⟩
    have hi : i < es.size := by rw [← hl]; exact (List.getElem?_eq_some_iff.mp e).1
    refine ⟨hi, ?_⟩
    obtain ⟨b, hb, r⟩ := paired_get p e
    rw [List.getElem?_map, Array.getElem?_toList, Array.getElem?_eq_getElem hi] at hb
    cases hb
    exact r
  rcases hv with ⟨ks, rfl, rfl⟩ | ⟨es0, hs, rfl, rfl⟩
  · obtain ⟨hd, z, hs, vs, kv, o', es, ep, ho, hx, hdt, _, hp, _⟩ := I.hok d _ h
    rw [hd] at ho; cases ho
    exact ⟨hs, hd, hx, es, ep, hdt, fin es (pairs_vals hp kv)⟩
  · obtain ⟨hd, ⟨xs, p, o', es, ep, ho, hx, hdt, he, _⟩, _⟩ := I.hok d _ h
    rw [hd] at ho; cases ho
    exact ⟨hs, hd, hx, es, ep, hdt, fin es (by rw [he X.prog X.w]; exact entries_vals p)⟩
/-- the values of what is locked at d -/
def Itw (d : Addr) (o : Obj) (u : HO) (vs : List V) : It :=
  ⟨fun i H => H d = some (.frz o u) ∧ i < vs.length, fun i H x H' => H' = H ∧ vs[i]? = some x, fun i H => H d = some (.frz o u) ∧ vs.length ≤ i⟩
theorem turn_valsW {P : Program} {w : World} {K : PySem.W.Frag} {tg : Expr} {d : Addr} {o : Obj} {u : HO} {vs : List V} {es : Array DictEntry} {ep : Nat} (it : Addr) (hod : o.data = .dict es ep) (hv : ValsU d u vs) : Turn P w K tg (Itw d o u vs) [it] it (fun i h => h.IsValIter it d i vs.length ep) where
  mem := by simp
  obj := fun i h st b hb => by
    have e : b = it := by simpa using hb
    subst e
    obtain ⟨oi, e, c, dd⟩ := st
    exact ⟨oi, e, fun v z => by rw [dd] at z; cases z⟩
  keep := fun i h h' st k => st.at fun oi e => k it (by simp) oi e
  item := by
    intro X hP hw hK hc i pins s σ H E I hf st hg
    subst hP hw hK
    obtain ⟨hd, hi⟩ := hg
    obtain ⟨f0, f1, f2, f3, f4, f5⟩ := hf it (by simp)
    obtain ⟨_, hgd, hx, es', ep', hdt, hsz, ent⟩ := rawV I hd hv
    obtain ⟨rfl, rfl⟩ := dict_ep hod hdt
    obtain ⟨hlt, ru⟩ := ent i _ (List.getElem?_eq_getElem hi)
    rw [← hsz] at st
    refine wpAny_pyNext_values_item_raw st ⟨o, hgd, hx, hdt⟩ hlt fun h' st' sb => ?_
    have I1 : Inv X pins σ H { s with heap := h' } := I.turned (t' := s.toks) (fun b ob hb e => (sb.2 b hb).trans e) f0 f1 f3 f4 f5
    obtain ⟨oi, e, c, dd⟩ := id st'
    refine ⟨_, rfl, go_of (s := { s with heap := h' }) e c dd (by decide) ⟨vs[i], H, I1, ru, ⟨rfl, List.getElem?_eq_getElem hi⟩, ?_, fun b hb => (hf b hb).1⟩⟩
    show h'.IsValIter it d (i + 1) vs.length _
    rw [← hsz]
    exact st'
  done := by
    intro X hP hw hK hc i pins s σ H E I hf st hg
    subst hP hw hK
    obtain ⟨hd, hi⟩ := hg
    obtain ⟨f0, f1, f2, f3, f4, f5⟩ := hf it (by simp)
    obtain ⟨_, hgd, hx, es', ep', hdt, hsz, ent⟩ := rawV I hd hv
    obtain ⟨rfl, rfl⟩ := dict_ep hod hdt
    rw [← hsz] at st
    exact wpAny_pyNext_values_end_raw (I.ok.hd hc) st ⟨o, hgd, hx, hdt⟩ (by omega) fun h' eb => ⟨rfl, I.turned (t' := s.toks) (fun b ob hb e => eb b ob hb e) f0 f1 f3 f4 f5⟩
  self := fun A i s Q E st h => wpAny_pyIter_valiter st h
def iValsW (td : TE) : TI := fun σ H R => td σ H fun x H1 => ∃ d o u vs, x = .ref d ∧ H1 d = some (.frz o u) ∧ ValsU d u vs ∧ R (Itw d o u vs) H1
theorem pi_valuesW {td : TE} (he : PE X e td) (hbase : attributeBase e "values" X.env (eval e X.env) = eval e X.env := by rfl) (hline : (apos.endLine == cpos.line) = true := by rfl) : PI X tg (.Call (.Attribute e "values" apos) [] [] cpos) (iValsW td) := by
  refine ⟨fun pins s σ H R I h => ?_⟩
  refine wpAny_Call_method (T := "dict") (id := "dict.values") hbase rfl hline F.plainAttrs_dict F.slot_dict_values F.type_dict_values (thn (he.run pins s σ H _ I h) fun u' s1 ⟨x, H1, I1, rx, d, o, u, vs, ex, hd, hv, q⟩ => ?_)
  subst ex
  obtain rfl : u' = Value.ref d := rx
  obtain ⟨hs, hgd, hx, es, ep, hdt, hsz, ent⟩ := rawV I1 hd hv
  have hm : s1.heap.DictRaw d es ep := ⟨o, hgd, hx, hdt⟩
  refine ⟨hm.typeIs, fun b q => (by cases q; exact ⟨o, hgd, hx.2.1⟩), ?_⟩
  have I2 : Inv X pins σ H1 { s1 with heap := s1.heap.push { cls := .type "dict_values", data := .fields #[.ref d] } } := I1.kept (t' := s1.toks) fun b ob q => Heap.get?_push_of_some _ q
  have fin : wpAny (model X.prog X.w) X.A (pyIter (.ref s1.heap.objs.size)) (PIE X pins σ tg R) X.xe { s1 with heap := s1.heap.push { cls := .type "dict_values", data := .fields #[.ref d] } } := by
    refine wpAny_pyIter_values_raw (d := d) ⟨_, Heap.get?_push_size _ rfl, rfl, rfl⟩ (hm.at fun ob q => Heap.get?_push_of_some _ q) (pi_one (tk := s1.toks) I2 _ (turn_valsW _ hdt hv) ⟨_, Heap.get?_push_size _ rfl, rfl, ?_⟩ q)
    rw [hsz] <;> rfl
  show wpAny _ _ (callWith cpos (.builtin "dict.values") [.ref d] [] []) _ X.xe s1
  exact method_meetsIn F.slot_dict_values F.entry_dict_values rfl (PySem.evalArgs_none ⟨rfl, hm.typeIs, F.args_dict_values_1 _, _, meets_dict_values_raw d hs, ⟨⟨es, ep, hm⟩, fin⟩⟩)
def iValsM (me : ME) : MI := fun ρ S => (me ρ S).bind fun d S1 => match d with
  | .ptr n => match S1[n]? with
    | some (.rox kvs) => .ok ⟨kvs.map (·.2), fun _ => True⟩ S1
    | _ => .bad
  | _ => .bad
theorem rki_vals {K : PySem.W.Frag} {H : Hp} {φ : List Addr} : ∀ {kvs : List (NestedKey × D)} {ks : List (L2.Key × V)}, RKi K H φ kvs ks → RDs K H φ (kvs.map (·.2)) (ks.map (·.2))
  | [], _, h => by unfold RKi at h; subst h; exact RDs.nil
  | (k, d) :: kvs, _, h => by
    unfold RKi at h
    obtain ⟨i, v, r', _, rfl, r, h2⟩ := h
    exact RDs.cons r (rki_vals h2)
theorem rkx_vals {K : PySem.W.Frag} {H : Hp} {φ : List Addr} : ∀ {kvs : List (NestedKey × D)} {es : List (NestedKey × Addr × V)}, RKx K H φ kvs es → RDs K H φ (kvs.map (·.2)) (es.map (·.2.2))
  | [], _, h => by unfold RKx at h; subst h; exact RDs.nil
  | (k, d) :: kvs, _, h => by
    unfold RKx at h
    obtain ⟨b, v, r', ks, _, _, rfl, _, r, h2⟩ := h
    exact RDs.cons r (rkx_vals h2)
theorem si_values (he : SE X W e me) (hbase : attributeBase e "values" X.env (eval e X.env) = eval e X.env := by rfl) (hline : (apos.endLine == cpos.line) = true := by rfl) : SI X W tg (.Call (.Attribute e "values" apos) [] [] cpos) (iValsM me) := by
  refine (pi_valuesW he hbase hline).imp fun σ H R => ?_
  rintro ⟨φ, ρ, S, re, rs, h⟩
  refine LE.to re rs h fun d S1 φ1 H1 v x1 rs1 re1 rd k => ?_
  split at k
  · rename_i n
    unfold RD at rd
    obtain ⟨a, ha, rfl⟩ := rd
    split at k
    · rename_i kvs hS
      obtain ⟨a', q1, o, rc⟩ := rs1.at hS
      rw [ha] at q1; cases q1
      have key : ∃ u vs, H1 a = some (.frz o u) ∧ ValsU a u vs ∧ RDs X.K H1 φ1 (kvs.map (·.2)) vs := by
        rcases rc with ⟨ks, e, r⟩ | ⟨es, h3, e, r⟩
        · exact ⟨_, _, e, .inl ⟨ks, rfl, rfl⟩, rki_vals r⟩
        · exact ⟨_, _, e, .inr ⟨es, h3, rfl, rfl⟩, rkx_vals r⟩
      obtain ⟨u, vs, hu, hv, r⟩ := key
      refine ⟨a, o, u, vs, rfl, hu, hv, k.ok rs1 _ ⟨fun i φ2 H2 S2 hi x2 rs2 _ => ?_, fun φ2 H2 S2 x2 rs2 _ => ?_, fun i φ2 H2 S2 x H' hi x2 rs2 _ y => ?_⟩⟩
      · exact ⟨x2.frz _ _ _ hu, by rw [r.length]; exact hi⟩
      · exact ⟨x2.frz _ _ _ hu, Nat.le_of_eq r.length⟩
      · obtain ⟨e1, y⟩ := y
        subst e1
        obtain ⟨d, h1, h2⟩ := (r.mono x2).pt y
        exact ⟨d, h1, Ext.refl, rs2, h2⟩
    · exact k.elim
  · exact k.elim
end
/-! ### a comprehension within a comprehension within a comprehension -/
theorem nest2 (S0 : Scope) (N : List Str) {X : Cx} {scope1 scope2 scope3 : Scope} {own : List (Str × Nat)} {s s' : Shared} {H H' : Hp} {C C' : Addr} {cl cl' : List (Str × Addr)} {fp fp' : List Addr}
    (h : blkC N (relabelS scope2 (relabelS scope1 S0)) scope3 own = true) (e : X.env.scope = S0 := by rfl) (eN : X.N = N := by rfl) : BlkOk (blkX (blkX X scope1 s H C cl fp) scope2 s' H' C' cl' fp').N (blkX (blkX X scope1 s H C cl fp) scope2 s' H' C' cl' fp').env.scope scope3 own := by
  subst e eN
  exact blkOk_by h
end RL

namespace RL
open PySem PySem.Spec PyProof.Rows L2 PySem.W


/-! ### min of a list -/
def minAt (ps : List PyData) : Nat := argBest (fun i j => dataLt (ps.getD i .none) (ps.getD j .none)) (ps.length - 1)
def minD1 (S : Store) (ds : List D) : Res D := match mapO (deep S deepLine) ds with
  | some ps => if okSort ps = true then match ds[minAt ps]? with
      | some d => .ok d S
      | none => .bad
    else .bad
  | none => .bad
def fMinA : Fn
  | [.int i, .int j], S => .ok (.int (if j < i then j else i)) S
  | [.ptr n], S => match S[n]? with
    | some (.lst ds) => minD1 S ds
    | some (.rol ds) => minD1 S ds
    | _ => .bad
  | _, _ => .bad
def rMin1 (K : PySem.W.Frag) : List V → Hp → VK → Prop := fun xs H Q => ∃ a vs ds ps φ S v, xs = [.ref a] ∧ SqL K H a vs ∧ RS K H φ S ∧ RDs K H φ ds vs ∧ mapO (deep S deepLine) ds = some ps ∧ okSort ps = true ∧ vs[minAt ps]? = some v ∧ Q v H
def rMinA (K : PySem.W.Frag) : List V → Hp → VK → Prop := fun xs H Q => (∃ i j, xs = [.int i, .int j] ∧ Q (.int (if j < i then j else i)) H) ∨ rMin1 K xs H Q
section
variable {X : Cx} {W : WX} {k : Nat}
theorem readsAll_of {h : Heap} : ∀ {its : List Value} {ps : List PyData}, EachIs (fun v p => ∃ as, Reads h v p as) its ps → ∃ as, ReadsAll h its ps as
  | _, _, .nil => ⟨[], .nil⟩
  | _, _, .cons ⟨as, r⟩ rs => let ⟨bs, q⟩ := readsAll_of rs; ⟨as ++ bs, .cons r q⟩
theorem depthAll_ok {c : Nat} : ∀ {ps : List PyData}, (∀ p ∈ ps, p.depth ≤ c) → PyData.depthAll ps ≤ c
  | [], _ => Nat.zero_le _
  | p :: ps, h => by
    unfold PyData.depthAll
    have := h p List.mem_cons_self
    have := depthAll_ok fun x hx => h x (List.mem_cons_of_mem _ hx)
    omega
theorem call_min1 (c : Ctx X W k) : CallR X (.builtin "min") (rMin1 X.K) := by
  intro pins s σ H xs us Q I r h
  obtain ⟨a, vs, ds, ps, φ, S, v0, rfl, seq, rs, rd, sh, ok, hv0, q⟩ := h
  obtain ⟨u, rfl, ru⟩ := vals1 r
  cases ru
  obtain ⟨hal, hnn, hdp, hcl⟩ := okSort_of ok
  have each := mapO_each sh
  obtain ⟨its, rv, p, few⟩ := I.list seq
  obtain ⟨as, hr⟩ := readsAll_of (reads_each I rs each hcl rd rv)
  have hl : s.heap.IsList a its.toArray := p.isList
  have e1 : its.length = ps.length := by have := readsAll_len hr; simpa using this
  obtain ⟨u0, hu0, ru0⟩ := rv.get hv0
  have hlt := (List.getElem?_eq_some_iff.mp hu0).1
  refine call_min_walkH (iter_listW (A := X.A.in1) (I.ok.hd c.calm) hl fun s₂ e W' st hfp hw hk => ?_)
  refine ⟨_, _, _, _, _, _, _, s.heap, _, rfl, W', st, hfp, by simp; omega, hw, hk, cmpIn_lt (A := X.A.in1) (vs := its.toArray) (by simpa using hr) ⟨hal, hnn⟩ (by
    show X.A.units + 1 + _ < _
    have := c.hr.units
    have := depthAll_ok hdp
    omega), fun v s' hP m => ?_⟩
  obtain ⟨h', tk, rfl, hk'⟩ := moved_old e rfl m
  have hv : v = u0 := by
    have e2 : its.toArray.size - 1 = ps.length - 1 := by simp; omega
    rw [e2] at hP
    have hP : its[minAt ps]? = some v := by rw [List.getElem?_toArray] at hP; exact hP
    rw [hu0] at hP
    exact (Option.some.inj hP).symm
  subst hv
  exact ⟨v0, H, I.kept (t' := tk) hk', ru0, q⟩
theorem call_minA (c : Ctx X W k) : CallR X (.builtin "min") (rMinA X.K) := by
  intro pins s σ H xs us Q I r h
  rcases h with h | h
  · exact call_min2 c.calm pins s σ H xs us Q I r h
  · exact call_min1 c pins s σ H xs us Q I r h
theorem cd_minA : CallD X (rMinA X.K) fMinA := by
  intro W σ φ H S xs vs Q rs r h
  have fin : ∀ (a : Addr) (ds : List D) (ys : List V), SqL X.K H a ys → RDs X.K H φ ds ys → LK X W σ φ H (minD1 S ds) (fun d _ φ' H' => ∀ v, RD X.K H' φ' d v → Q v H') → rMin1 X.K [.ref a] H Q := by
    intro a ds ys seq rd h
    unfold minD1 at h
    split at h
    · rename_i ps hp
      split at h
      · rename_i ok
        split at h
        · rename_i d hd
          obtain ⟨v, hv, rv⟩ := rd.get hd
          exact ⟨a, ys, ds, ps, φ, S, v, rfl, seq, rs, rd, hp, ok, hv, h.ok rs v rv⟩
        · exact h.elim
      · exact h.elim
    · exact h.elim
  unfold fMinA at h
  split at h
  · obtain ⟨v, u, rfl, rx, ry⟩ := r.two; unfold RD at rx ry; subst rx ry; exact .inl ⟨_, _, rfl, h.ok rs _ rd_int⟩
  · obtain ⟨v, rfl, rx⟩ := r.one
    unfold RD at rx
    obtain ⟨a, ha, rfl⟩ := rx
    split at h
    · rename_i ys hS
      obtain ⟨a', xs, q1, q2, q3⟩ := rs.seqL (.inl hS)
      rw [ha] at q1; cases q1
      exact .inr (fin a _ xs q2 q3 h)
    · rename_i ys hS
      obtain ⟨a', xs, q1, q2, q3⟩ := rs.seqL (.inr hS)
      rw [ha] at q1; cases q1
      exact .inr (fin a _ xs q2 q3 h)
    · exact h.elim
  · exact h.elim
end
end RL

namespace RP
open PySem PySem.Spec PyProof.Rows L2 RL

/-! ### values without a store -/
inductive PV where
  | non | bl (b : Bool) | int (i : Int) | str (s : Str) | tup (xs : List PV) | lst (xs : List PV) | dct (kvs : List (L2.Key × PV)) | dcx (kvs : List (NestedKey × PV)) | deck
/-- objects of a name's own, beside lists: a list of lists -/
inductive OV where
  | lsts (vss : List (List PV))
  /-- a dict of lists -/
  | dl (kvs : List (NestedKey × List PV))
inductive PSlot where
  | no | val (v : PV) | own (vs : List PV) | obj (x : OV)
abbrev PEnv := List PSlot
structure PX where
  name : Str
  fs : List (Str × PV)
abbrev W (α : Type) := Int → (α → Int → Prop) → (PX → Int → Prop) → Prop
abbrev PE := PEnv → W PV
abbrev PT := PEnv → W Bool
abbrev PA := PEnv → W (List PV)
abbrev PO := PEnv → W (Option Int)
abbrev PI := PEnv → W (List PV)
abbrev PF := List PV → W PV
abbrev Pl := Nat → Prop

section
variable (p0 : Nat) (F : Pl) (S : Store)
mutual
def Rep : PV → D → Prop
  | .non, d => d = .non
  | .bl b, d => d = .bl b
  | .int i, d => d = .int i
  | .str s, d => d = .str s
  | .tup vs, d => ∃ ds, d = .tup ds ∧ Reps vs ds
  | .lst vs, d => ∃ n ds, d = .ptr n ∧ F n ∧ S[n]? = some (.lst ds) ∧ Reps vs ds
  | .dct kvs, d => ∃ n ds, d = .ptr n ∧ F n ∧ S[n]? = some (.dct ds) ∧ RepK kvs ds
  | .dcx kvs, d => ∃ n ds, d = .ptr n ∧ F n ∧ S[n]? = some (.rox ds) ∧ RepN kvs ds
  | .deck, d => d = .ptr p0
def Reps : List PV → List D → Prop
  | [], ds => ds = []
  | v :: vs, ds => ∃ d r, ds = d :: r ∧ Rep v d ∧ Reps vs r
def RepK : List (L2.Key × PV) → List (L2.Key × D) → Prop
  | [], ds => ds = []
  | (k, v) :: kvs, ds => ∃ d r, ds = (k, d) :: r ∧ Rep v d ∧ RepK kvs r
def RepN : List (NestedKey × PV) → List (NestedKey × D) → Prop
  | [], ds => ds = []
  | (k, v) :: kvs, ds => ∃ d r, ds = (k, d) :: r ∧ Rep v d ∧ RepN kvs r
end
def RepFs : List (Str × PV) → List (Str × D) → Prop
  | [], ds => ds = []
  | (k, v) :: kvs, ds => ∃ d r, ds = (k, d) :: r ∧ Rep p0 F S v d ∧ RepFs kvs r
def RepX (y : PX) (x : Exn) : Prop := x.name = y.name ∧ RepFs p0 F S y.fs x.fs
end
/-- what stands in F stays -/
def Keep (F : Pl) (S : Store) (F' : Pl) (S' : Store) : Prop := ∀ n, F n → F' n ∧ S'[n]? = S[n]?
section
variable {p0 : Nat} {F F' F'' : Pl} {S S' S'' : Store} {t t' : Int}
theorem Keep.refl : Keep F S F S := fun _ h => ⟨h, rfl⟩
theorem Keep.trans (a : Keep F S F' S') (b : Keep F' S' F'' S'') : Keep F S F'' S'' := fun n h => ⟨(b n (a n h).1).1, (b n (a n h).1).2.trans (a n h).2⟩
mutual
theorem Rep.mono (x : Keep F S F' S') : ∀ (v : PV) (d : D), Rep p0 F S v d → Rep p0 F' S' v d
  | .non, _, h => h
  | .bl _, _, h => h
  | .int _, _, h => h
  | .str _, _, h => h
  | .deck, _, h => h
  | .tup vs, d, h => by
    unfold Rep at h ⊢
    obtain ⟨ds, e, r⟩ := h
    exact ⟨ds, e, Reps.mono x vs ds r⟩
  | .lst vs, d, h => by
    unfold Rep at h ⊢
    obtain ⟨n, ds, e, f, c, r⟩ := h
    exact ⟨n, ds, e, (x n f).1, by rw [(x n f).2]; exact c, Reps.mono x vs ds r⟩
  | .dct vs, d, h => by
    unfold Rep at h ⊢
    obtain ⟨n, ds, e, f, c, r⟩ := h
    exact ⟨n, ds, e, (x n f).1, by rw [(x n f).2]; exact c, RepK.mono x vs ds r⟩
  | .dcx vs, d, h => by
    unfold Rep at h ⊢
    obtain ⟨n, ds, e, f, c, r⟩ := h
    exact ⟨n, ds, e, (x n f).1, by rw [(x n f).2]; exact c, RepN.mono x vs ds r⟩
theorem Reps.mono (x : Keep F S F' S') : ∀ (vs : List PV) (ds : List D), Reps p0 F S vs ds → Reps p0 F' S' vs ds
  | [], _, h => by unfold Reps at h ⊢; exact h
  | v :: vs, _, h => by
    unfold Reps at h ⊢
    obtain ⟨d, r, e, h1, h2⟩ := h
    exact ⟨d, r, e, Rep.mono x v d h1, Reps.mono x vs r h2⟩
theorem RepK.mono (x : Keep F S F' S') : ∀ (vs : List (L2.Key × PV)) (ds : List (L2.Key × D)), RepK p0 F S vs ds → RepK p0 F' S' vs ds
  | [], _, h => by unfold RepK at h ⊢; exact h
  | (k, v) :: vs, _, h => by
    unfold RepK at h ⊢
    obtain ⟨d, r, e, h1, h2⟩ := h
    exact ⟨d, r, e, Rep.mono x v d h1, RepK.mono x vs r h2⟩
theorem RepN.mono (x : Keep F S F' S') : ∀ (vs : List (NestedKey × PV)) (ds : List (NestedKey × D)), RepN p0 F S vs ds → RepN p0 F' S' vs ds
  | [], _, h => by unfold RepN at h ⊢; exact h
  | (k, v) :: vs, _, h => by
    unfold RepN at h ⊢
    obtain ⟨d, r, e, h1, h2⟩ := h
    exact ⟨d, r, e, Rep.mono x v d h1, RepN.mono x vs r h2⟩
end
theorem RepFs.mono (x : Keep F S F' S') : ∀ (vs : List (Str × PV)) (ds : List (Str × D)), RepFs p0 F S vs ds → RepFs p0 F' S' vs ds
  | [], _, h => by unfold RepFs at h ⊢; exact h
  | (k, v) :: vs, _, h => by
    unfold RepFs at h ⊢
    obtain ⟨d, r, e, h1, h2⟩ := h
    exact ⟨d, r, e, h1.mono x, RepFs.mono x vs r h2⟩
theorem Reps.nil : Reps p0 F S [] [] := by unfold Reps; rfl
theorem Reps.cons {v : PV} {d : D} {vs : List PV} {ds : List D} (a : Rep p0 F S v d) (b : Reps p0 F S vs ds) : Reps p0 F S (v :: vs) (d :: ds) := by unfold Reps; exact ⟨d, ds, rfl, a, b⟩
theorem Reps.len : ∀ {vs : List PV} {ds : List D}, Reps p0 F S vs ds → ds.length = vs.length
  | [], _, h => by unfold Reps at h; rw [h]; rfl
  | v :: vs, _, h => by
    unfold Reps at h
    obtain ⟨d, r, rfl, _, h2⟩ := h
    rw [List.length_cons, List.length_cons, h2.len]
theorem Reps.append : ∀ {vs ws : List PV} {ds es : List D}, Reps p0 F S vs ds → Reps p0 F S ws es → Reps p0 F S (vs ++ ws) (ds ++ es)
  | [], _, _, _, h, k => by unfold Reps at h; subst h; exact k
  | v :: vs, _, _, _, h, k => by
    unfold Reps at h
    obtain ⟨d, r, rfl, h1, h2⟩ := h
    exact Reps.cons h1 (h2.append k)
theorem Reps.get : ∀ {vs : List PV} {ds : List D} {i : Nat} {v : PV}, Reps p0 F S vs ds → vs[i]? = some v → ∃ d, ds[i]? = some d ∧ Rep p0 F S v d
  | [], _, _, _, _, e => by simp at e
  | w :: vs, _, i, v, h, e => by
    unfold Reps at h
    obtain ⟨d, r, rfl, h1, h2⟩ := h
    cases i with
    | zero =>
      have : w = v := by simpa using e
      subst this
      exact ⟨d, rfl, h1⟩
    | succ i =>
      obtain ⟨u, k1, k2⟩ := h2.get (i := i) (v := v) (by simpa using e)
      exact ⟨u, by simpa using k1, k2⟩
theorem Reps.take : ∀ {vs : List PV} {ds : List D} (i : Nat), Reps p0 F S vs ds → Reps p0 F S (vs.take i) (ds.take i)
  | _, _, 0, _ => Reps.nil
  | [], _, i + 1, h => by unfold Reps at h; subst h; exact Reps.nil
  | v :: vs, _, i + 1, h => by
    unfold Reps at h
    obtain ⟨d, r, rfl, h1, h2⟩ := h
    exact Reps.cons h1 (h2.take i)
theorem Reps.drop : ∀ {vs : List PV} {ds : List D} (i : Nat), Reps p0 F S vs ds → Reps p0 F S (vs.drop i) (ds.drop i)
  | _, _, 0, h => h
  | [], _, i + 1, h => by unfold Reps at h; subst h; exact Reps.nil
  | v :: vs, _, i + 1, h => by
    unfold Reps at h
    obtain ⟨d, r, rfl, h1, h2⟩ := h
    exact h2.drop i
theorem Reps.reverse : ∀ {vs : List PV} {ds : List D}, Reps p0 F S vs ds → Reps p0 F S vs.reverse ds.reverse
  | [], _, h => by unfold Reps at h; subst h; exact Reps.nil
  | v :: vs, _, h => by
    unfold Reps at h
    obtain ⟨d, r, rfl, h1, h2⟩ := h
    rw [List.reverse_cons, List.reverse_cons]
    exact h2.reverse.append (Reps.cons h1 Reps.nil)
theorem Reps.replicate {vs : List PV} {ds : List D} (h : Reps p0 F S vs ds) : ∀ n, Reps p0 F S (List.replicate n vs).flatten (List.replicate n ds).flatten
  | 0 => Reps.nil
  | n + 1 => by
    rw [List.replicate_succ, List.replicate_succ, List.flatten_cons, List.flatten_cons]
    exact h.append (Reps.replicate h n)
theorem Reps.set : ∀ {vs : List PV} {ds : List D} {v : PV} {d : D} (i : Nat), Reps p0 F S vs ds → Rep p0 F S v d → Reps p0 F S (vs.set i v) (ds.set i d)
  | [], _, _, _, _, h, _ => by unfold Reps at h; subst h; exact Reps.nil
  | w :: vs, _, v, d, i, h, rd => by
    unfold Reps at h
    obtain ⟨u, r, rfl, h1, h2⟩ := h
    cases i with
    | zero => exact Reps.cons rd h2
    | succ i => exact Reps.cons h1 (h2.set i rd)
theorem Reps.ints : ∀ ns : List Int, Reps p0 F S (ns.map PV.int) (ns.map D.int)
  | [] => Reps.nil
  | n :: ns => Reps.cons (by unfold Rep; rfl) (Reps.ints ns)
/-- pairs -/
theorem Reps.zip : ∀ {vs : List PV} {ds : List D}, Reps p0 F S vs ds → ∀ q ∈ vs.zip ds, Rep p0 F S q.1 q.2
  | [], _, _, q, hq => by simp at hq
  | v :: vs, _, h, q, hq => by
    unfold Reps at h
    obtain ⟨d, r, rfl, h1, h2⟩ := h
    rw [List.zip_cons_cons] at hq
    rcases List.mem_cons.mp hq with rfl | hq
    · exact h1
    · exact h2.zip q hq
theorem Reps.ofAll : ∀ {qs : List (PV × D)}, (∀ q ∈ qs, Rep p0 F S q.1 q.2) → Reps p0 F S (qs.map Prod.fst) (qs.map Prod.snd)
  | [], _ => Reps.nil
  | q :: qs, h => Reps.cons (h q List.mem_cons_self) (Reps.ofAll fun r hr => h r (List.mem_cons_of_mem _ hr))

/-! ### how a store may go on -/
structure Ex (p0 : Nat) (F : Pl) (S : Store) (F' : Pl) (S' : Store) : Prop where
  len : S.length ≤ S'.length
  same : ∀ n, n < S.length → n ≠ p0 → S'[n]? = S[n]?
  up : ∀ n, F n → F' n
  old : ∀ n, n < S.length → F' n → F n
structure Good (p0 : Nat) (F : Pl) (S : Store) (t : Int) : Prop where
  lt : ∀ n, F n → n < S.length
  np : ¬ F p0
  dk : DeckOk S p0 t
theorem Good.p0lt (g : Good p0 F S t) : p0 < S.length := by
  obtain ⟨a, b, c, h, _⟩ := g.dk
  exact lt_of_get h
theorem Ex.refl : Ex p0 F S F S := ⟨Nat.le_refl _, fun _ _ _ => rfl, fun _ h => h, fun _ _ h => h⟩
theorem Ex.trans (a : Ex p0 F S F' S') (b : Ex p0 F' S' F'' S'') : Ex p0 F S F'' S'' :=
  ⟨Nat.le_trans a.len b.len, fun n h k => (b.same n (Nat.lt_of_lt_of_le h a.len) k).trans (a.same n h k), fun n h => b.up n (a.up n h), fun n h k => a.old n h (b.old n (Nat.lt_of_lt_of_le h a.len) k)⟩
theorem Ex.keep (a : Ex p0 F S F' S') (g : Good p0 F S t) : Keep F S F' S' := fun n h => ⟨a.up n h, a.same n (g.lt n h) fun e => g.np (e ▸ h)⟩
/-- what a name holds of its own, and in which cells -/
def OwnLs (p0 : Nat) (F : Pl) (S : Store) : List Nat → List (List PV) → Prop
  | [], [] => True
  | n :: ns, vs :: vss => (∃ ds, S[n]? = some (.lst ds) ∧ Reps p0 F S vs ds) ∧ OwnLs p0 F S ns vss
  | _, _ => False
def OwnD (p0 : Nat) (F : Pl) (S : Store) : List Nat → List (NestedKey × List PV) → List (NestedKey × D) → Prop
  | [], [], [] => True
  | n :: ns, (k, vs) :: kvs, (k', d) :: ds => k' = k ∧ d = .ptr n ∧ (∃ xs, S[n]? = some (.lst xs) ∧ Reps p0 F S vs xs) ∧ OwnD p0 F S ns kvs ds
  | _, _, _ => False
def OwnS (p0 : Nat) (F : Pl) (S : Store) : PSlot → Option D → List Nat → Prop
  | .own vs, o, A => ∃ n ds, o = some (.ptr n) ∧ A = [n] ∧ S[n]? = some (.lst ds) ∧ Reps p0 F S vs ds
  | .obj (.lsts vss), o, A => ∃ n ns, o = some (.ptr n) ∧ A = n :: ns ∧ S[n]? = some (.lst (ns.map D.ptr)) ∧ OwnLs p0 F S ns vss
  | .obj (.dl kvs), o, A => ∃ n ns ds, o = some (.ptr n) ∧ A = n :: ns ∧ S[n]? = some (.dcx ds) ∧ OwnD p0 F S ns kvs ds ∧ (kvs.map (·.1)).Nodup
  | _, _, A => A = []
theorem OwnLs.mono (kp : Keep F S F' S') : ∀ {ns : List Nat} {vss : List (List PV)}, (∀ n ∈ ns, S'[n]? = S[n]?) → OwnLs p0 F S ns vss → OwnLs p0 F' S' ns vss
  | [], [], _, _ => trivial
  | n :: ns, vs :: vss, hs, h => by
    obtain ⟨⟨ds, e, r⟩, h2⟩ := h
    exact ⟨⟨ds, by rw [hs n List.mem_cons_self]; exact e, r.mono kp⟩, OwnLs.mono kp (fun m hm => hs m (List.mem_cons_of_mem _ hm)) h2⟩
  | [], _ :: _, _, h => h.elim
  | _ :: _, [], _, h => h.elim
theorem OwnD.mono (kp : Keep F S F' S') : ∀ {ns : List Nat} {kvs : List (NestedKey × List PV)} {ds : List (NestedKey × D)}, (∀ n ∈ ns, S'[n]? = S[n]?) → OwnD p0 F S ns kvs ds → OwnD p0 F' S' ns kvs ds
  | [], [], [], _, _ => trivial
  | n :: ns, (k, vs) :: kvs, (k', d) :: ds, hs, h => by
    obtain ⟨e1, e2, ⟨xs, e, r⟩, h2⟩ := h
    exact ⟨e1, e2, ⟨xs, by rw [hs n List.mem_cons_self]; exact e, r.mono kp⟩, OwnD.mono kp (fun m hm => hs m (List.mem_cons_of_mem _ hm)) h2⟩
  | [], _ :: _, _, _, h => by cases h
  | [], [], _ :: _, _, h => by cases h
  | _ :: _, [], _, _, h => by cases h
  | _ :: _, _ :: _, [], _, h => by cases h
theorem OwnS.mono {s : PSlot} {o : Option D} {A : List Nat} (kp : Keep F S F' S') (hs : ∀ n ∈ A, S'[n]? = S[n]?) (h : OwnS p0 F S s o A) : OwnS p0 F' S' s o A := by
  cases s with
  | no => exact h
  | val v => exact h
  | own vs =>
    obtain ⟨n, ds, e, rfl, c, r⟩ := h
    exact ⟨n, ds, e, rfl, by rw [hs n List.mem_cons_self]; exact c, r.mono kp⟩
  | obj x =>
    cases x with
    | lsts vss =>
      obtain ⟨n, ns, e, rfl, c, r⟩ := h
      exact ⟨n, ns, e, rfl, by rw [hs n List.mem_cons_self]; exact c, r.mono kp fun m hm => hs m (List.mem_cons_of_mem _ hm)⟩
    | dl kvs =>
      obtain ⟨n, ns, ds, e, rfl, c, r, nd⟩ := h
      exact ⟨n, ns, ds, e, rfl, by rw [hs n List.mem_cons_self]; exact c, r.mono kp fun m hm => hs m (List.mem_cons_of_mem _ hm), nd⟩
/-- names: values, or objects of their own -/
structure REnvA (As : Nat → List Nat) (p0 : Nat) (F : Pl) (S : Store) (b : Nat) (π : PEnv) (ρ : RL.Env) : Prop where
  len : π.length = ρ.length
  val : ∀ (i : Nat) (v : PV), π[i]? = some (.val v) → ∃ d, ρ[i]? = some (some d) ∧ Rep p0 F S v d
  own : ∀ (i : Nat) (s : PSlot), π[i]? = some s → ∃ o, ρ[i]? = some o ∧ OwnS p0 F S s o (As i)
  off : ∀ (i n : Nat), n ∈ As i → i < π.length ∧ b ≤ n ∧ ¬ F n ∧ n ≠ p0 ∧ n < S.length
  nd : ∀ i, (As i).Nodup
  dis : ∀ (i j n : Nat), n ∈ As i → n ∈ As j → i = j
def REnv (p0 : Nat) (F : Pl) (S : Store) (b : Nat) (π : PEnv) (ρ : RL.Env) : Prop := ∃ As, REnvA As p0 F S b π ρ
theorem REnv.len {b : Nat} {π : PEnv} {ρ : RL.Env} (h : REnv p0 F S b π ρ) : π.length = ρ.length := h.elim fun _ x => x.len
theorem REnv.val {b : Nat} {π : PEnv} {ρ : RL.Env} (h : REnv p0 F S b π ρ) : ∀ (i : Nat) (v : PV), π[i]? = some (.val v) → ∃ d, ρ[i]? = some (some d) ∧ Rep p0 F S v d := h.elim fun _ x => x.val
theorem set_at {α : Type} {l : List α} {i j : Nat} {s u : α} (e : (l.set i s)[j]? = some u) : (i = j ∧ u = s ∧ i < l.length) ∨ (i ≠ j ∧ l[j]? = some u) := by
  by_cases hij : i = j
  · subst hij
    by_cases hl : i < l.length
    · rw [List.getElem?_set_self hl] at e
      exact .inl ⟨rfl, (Option.some.inj e).symm, hl⟩
    · rw [List.getElem?_eq_none (by rw [List.length_set]; omega)] at e
      cases e
  · rw [List.getElem?_set_ne hij] at e
    exact .inr ⟨hij, e⟩
/-- cells of one name are written anew, others stay -/
theorem REnvA.put {As : Nat → List Nat} {b : Nat} {π : PEnv} {ρ ρ' : RL.Env} (h : REnvA As p0 F S b π ρ) (i : Nat) (s' : PSlot) (o' : Option D) (A' : List Nat) (kp : Keep F S F' S') (old : ∀ n, n < S.length → F' n → F n ∨ n ∈ As i)
    (same : ∀ j, j ≠ i → ∀ n ∈ As j, S'[n]? = S[n]?) (len : S.length ≤ S'.length) (l' : ρ'.length = ρ.length) (r1 : ∀ j, j ≠ i → ρ'[j]? = ρ[j]?) (r2 : i < ρ.length → ρ'[i]? = some o')
    (hO : i < π.length → OwnS p0 F' S' s' o' A') (hz : ¬ i < π.length → A' = []) (hV : ∀ v, s' = .val v → ∃ d, o' = some d ∧ Rep p0 F' S' v d) (hA : ∀ n ∈ A', b ≤ n ∧ ¬ F' n ∧ n ≠ p0 ∧ n < S'.length) (nd : A'.Nodup) (new : ∀ n ∈ A', ∀ j, j ≠ i → n ∉ As j) :
    REnvA (fun j => if j = i then A' else As j) p0 F' S' b (π.set i s') ρ' := by
  refine ⟨by rw [List.length_set, l']; exact h.len, fun j v e => ?_, fun j s e => ?_, fun j n hn => ?_, fun j => ?_, fun j k n hj hk => ?_⟩
  · rcases set_at e with ⟨rfl, z, hl⟩ | ⟨hij, e⟩
    · obtain ⟨d, e1, r⟩ := hV v z.symm
      exact ⟨d, by rw [r2 (by rw [← h.len]; exact hl), e1], r⟩
    · obtain ⟨d, e1, r⟩ := h.val j v e
      exact ⟨d, by rw [r1 j fun z => hij z.symm]; exact e1, r.mono kp⟩
  · rcases set_at e with ⟨rfl, rfl, hl⟩ | ⟨hij, e⟩
    · exact ⟨o', r2 (by rw [← h.len]; exact hl), by rw [if_pos rfl]; exact hO hl⟩
    · obtain ⟨o, e1, q⟩ := h.own j s e
      have hj : j ≠ i := fun z => hij z.symm
      exact ⟨o, by rw [r1 j hj]; exact e1, by rw [if_neg hj]; exact q.mono kp (same j hj)⟩
  · rw [List.length_set]
    by_cases hj : j = i
    · subst hj
      rw [if_pos rfl] at hn
      have hl : j < π.length := Classical.byContradiction fun z => by rw [hz z] at hn; cases hn
      exact ⟨hl, hA n hn⟩
    · rw [if_neg hj] at hn
      obtain ⟨a, c, d, e, f⟩ := h.off j n hn
      exact ⟨a, c, fun z => (old n f z).elim d fun q => hj (h.dis j i n hn q), e, by omega⟩
  · by_cases hj : j = i
    · rw [if_pos hj]; exact nd
    · rw [if_neg hj]; exact h.nd j
  · by_cases h1 : j = i
    · by_cases h2 : k = i
      · rw [h1, h2]
      · rw [if_pos h1] at hj
        rw [if_neg h2] at hk
        exact absurd hk (new n hj k h2)
    · rw [if_neg h1] at hj
      by_cases h2 : k = i
      · rw [if_pos h2] at hk
        exact absurd hj (new n hk j h1)
      · rw [if_neg h2] at hk
        exact h.dis j k n hj hk
theorem REnv.ex {b : Nat} {π : PEnv} {ρ : RL.Env} (h : REnv p0 F S b π ρ) (x : Ex p0 F S F' S') (g : Good p0 F S t) : REnv p0 F' S' b π ρ := by
  obtain ⟨As, h⟩ := h
  have kp := x.keep g
  refine ⟨As, h.len, fun i v e => ?_, fun i s e => ?_, fun i n hn => ?_, h.nd, h.dis⟩
  · obtain ⟨d, e1, r⟩ := h.val i v e
    exact ⟨d, e1, r.mono kp⟩
  · obtain ⟨o, e1, q⟩ := h.own i s e
    exact ⟨o, e1, q.mono kp fun n hn => x.same n (h.off i n hn).2.2.2.2 (h.off i n hn).2.2.2.1⟩
  · obtain ⟨a, c, d, e, f⟩ := h.off i n hn
    exact ⟨a, c, fun z => d (x.old n f z), e, Nat.lt_of_lt_of_le f x.len⟩
theorem REnv.set {b : Nat} {π : PEnv} {ρ : RL.Env} {v : PV} {d : D} (h : REnv p0 F S b π ρ) (i : Nat) (r : Rep p0 F S v d) : REnv p0 F S b (π.set i (.val v)) (ρ.set i (some d)) := by
  obtain ⟨As, h⟩ := h
  exact ⟨_, h.put i (.val v) (some d) [] Keep.refl (fun _ _ z => .inl z) (fun _ _ _ _ => rfl) (Nat.le_refl _) List.length_set (fun j hj => List.getElem?_set_ne fun z => hj z.symm) (fun hl => List.getElem?_set_self hl) (fun _ => rfl) (fun _ => rfl) (fun w e => by cases e; exact ⟨d, rfl, r⟩) (fun _ z => by cases z) List.nodup_nil fun _ z => by cases z⟩
theorem REnv.no {b : Nat} {π : PEnv} {ρ : RL.Env} (h : REnv p0 F S b π ρ) (i : Nat) (o : Option D) : REnv p0 F S b (π.set i .no) (ρ.set i o) := by
  obtain ⟨As, h⟩ := h
  exact ⟨_, h.put i .no o [] Keep.refl (fun _ _ z => .inl z) (fun _ _ _ _ => rfl) (Nat.le_refl _) List.length_set (fun j hj => List.getElem?_set_ne fun z => hj z.symm) (fun hl => List.getElem?_set_self hl) (fun _ => rfl) (fun _ => rfl) (fun w e => by cases e) (fun _ z => by cases z) List.nodup_nil fun _ z => by cases z⟩
def wipeP (π : PEnv) : List Nat → PEnv
  | [] => π
  | v :: vs => (wipeP π vs).set v .no
theorem REnv.wipe {b : Nat} {π : PEnv} {ρ : RL.Env} (h : REnv p0 F S b π ρ) : ∀ vs, REnv p0 F S b (wipeP π vs) (wipeE ρ vs)
  | [] => h
  | v :: vs => (h.wipe vs).no v none
/-- names that hold no object of their own -/
theorem REnv.plain {b : Nat} {π : PEnv} {ρ : RL.Env} (len : π.length = ρ.length) (hv : ∀ (i : Nat) (s : PSlot), π[i]? = some s → s = .no ∨ ∃ v d, s = .val v ∧ ρ[i]? = some (some d) ∧ Rep p0 F S v d) : REnv p0 F S b π ρ := by
  refine ⟨fun _ => [], len, fun i v e => ?_, fun i s e => ?_, fun _ _ z => (by cases z), fun _ => List.nodup_nil, fun _ _ _ z => (by cases z)⟩
  · rcases hv i _ e with z | ⟨w, d, z, h1, h2⟩
    · cases z
    · cases z; exact ⟨d, h1, h2⟩
  · have hl : i < ρ.length := by
      rw [← len]; exact (List.getElem?_eq_some_iff.mp e).1
    refine ⟨ρ[i], List.getElem?_eq_getElem hl, ?_⟩
    rcases hv i _ e with rfl | ⟨w, d, rfl, h1, h2⟩ <;> rfl
theorem REnv.start {vs : List PV} {ds : List D} (b n : Nat) (h : Reps p0 F S vs ds) : REnv p0 F S b (vs.map PSlot.val ++ List.replicate n .no) (ds.map some ++ List.replicate n none) := by
  have hl := h.len
  refine REnv.plain (by simp [hl]) fun i s e => ?_
  by_cases hi : i < vs.length
  · rw [List.getElem?_append_left (by simpa using hi), List.getElem?_map] at e
    obtain ⟨w, e1, e2⟩ := Option.map_eq_some_iff.mp e
    obtain ⟨d, e3, r⟩ := h.get e1
    refine .inr ⟨w, d, e2.symm, ?_, r⟩
    rw [List.getElem?_append_left (by simp [hl]; exact hi), List.getElem?_map, e3]
    rfl
  · rw [List.getElem?_append_right (by simpa using hi)] at e
    exact .inl (List.mem_replicate.mp (List.mem_of_getElem? e)).2
end

/-! ### what a run gives -/
def RO {α : Type} (r : Res α) (P : α → Store → Prop) (E : Exn → Store → Prop) : Prop := match r with
  | .ok a S => P a S
  | .exn x S => E x S
  | .bad => False
abbrev Rl (β α : Type) := Nat → Pl → Store → β → α → Prop
def Po {β α : Type} (R : Rl β α) (p0 : Nat) (F : Pl) (S : Store) (P : β → Int → Prop) : α → Store → Prop := fun a S' => ∃ F' b t', Ex p0 F S F' S' ∧ Good p0 F' S' t' ∧ R p0 F' S' b a ∧ P b t'
abbrev XO (p0 : Nat) (F : Pl) (S : Store) (E : PX → Int → Prop) : Exn → Store → Prop := Po RepX p0 F S E
def Sim {β α : Type} (R : Rl β α) (m : RL.Env → Store → Res α) (pm : PEnv → W β) : Prop := ∀ p0 F S b ρ π t P E, REnv p0 F S b π ρ → Good p0 F S t → pm π t P E → RO (m ρ S) (Po R p0 F S P) (XO p0 F S E)
abbrev REq {α : Type} : Rl α α := fun _ _ _ b a => a = b
abbrev SimE : ME → PE → Prop := Sim Rep
abbrev SimT : MT → PT → Prop := Sim REq
abbrev SimA : MA → PA → Prop := Sim Reps
abbrev SimO : MO → PO → Prop := Sim REq
def SimOp (f : D → D → Store → Res D) (pf : PV → PV → W PV) : Prop := ∀ p0 F S x y v w t P E, Good p0 F S t → Rep p0 F S v x → Rep p0 F S w y → pf v w t P E → RO (f x y S) (Po Rep p0 F S P) (XO p0 F S E)
def SimF (f : Fn) (pf : PF) : Prop := ∀ p0 F S ds vs t P E, Good p0 F S t → Reps p0 F S vs ds → pf vs t P E → RO (f ds S) (Po Rep p0 F S P) (XO p0 F S E)
section
variable {p0 : Nat} {F F' : Pl} {S S' : Store} {t : Int} {α β γ δ : Type}
theorem RO.mono {r : Res α} {P P' : α → Store → Prop} {E E' : Exn → Store → Prop} (h : RO r P E) (i : ∀ a S, P a S → P' a S) (j : ∀ a S, E a S → E' a S) : RO r P' E' := by
  cases r with
  | ok a S => exact i a S h
  | exn x S => exact j x S h
  | bad => exact h
theorem RO.bind {r : Res α} {f : α → Store → Res β} {P : β → Store → Prop} {E : Exn → Store → Prop} (h : RO r (fun a S => RO (f a S) P E) E) : RO (r.bind f) P E := by
  cases r <;> exact h
theorem Po.lift {R : Rl β α} {P : β → Int → Prop} {a : α} {S2 : Store} (x : Ex p0 F S F' S') (h : Po R p0 F' S' P a S2) : Po R p0 F S P a S2 := by
  obtain ⟨F2, b, t2, x2, r⟩ := h
  exact ⟨F2, b, t2, x.trans x2, r⟩
theorem Po.here {R : Rl β α} {P : β → Int → Prop} {a : α} {b : β} (g : Good p0 F S t) (r : R p0 F S b a) (h : P b t) : Po R p0 F S P a S := ⟨F, b, t, Ex.refl, g, r, h⟩
/-- go on behind a run -/
theorem Sim.bind {R : Rl β α} {R' : Rl δ γ} {m : RL.Env → Store → Res α} {pm : PEnv → W β} {b : Nat} {ρ : RL.Env} {π : PEnv} {K : β → Int → Prop} {P : δ → Int → Prop} {E : PX → Int → Prop} {f : α → Store → Res γ} (hm : Sim R m pm) (re : REnv p0 F S b π ρ) (g : Good p0 F S t) (h : pm π t K E)
    (go : ∀ F1 S1 a c t1, Ex p0 F S F1 S1 → Good p0 F1 S1 t1 → REnv p0 F1 S1 b π ρ → R p0 F1 S1 c a → K c t1 → RO (f a S1) (Po R' p0 F1 S1 P) (XO p0 F1 S1 E)) : RO ((m ρ S).bind f) (Po R' p0 F S P) (XO p0 F S E) := by
  refine RO.bind ((hm p0 F S b ρ π t K E re g h).mono ?_ fun _ _ z => z)
  rintro a S1 ⟨F1, c, t1, x1, g1, r1, k1⟩
  exact (go F1 S1 a c t1 x1 g1 (re.ex x1 g) r1 k1).mono (fun _ _ z => z.lift x1) fun _ _ z => z.lift x1
/-- a new list -/
theorem Good.new (g : Good p0 F S t) (c : Cell) : Good p0 (fun n => F n ∨ n = S.length) (S ++ [c]) t := by
  refine ⟨?_, ?_, ?_⟩
  · rintro n (h | rfl)
    · have := g.lt n h; rw [List.length_append]; omega
    · simp
  · rintro (h | h)
    · exact g.np h
    · have := g.p0lt; omega
  · obtain ⟨a, b, c', h, r⟩ := g.dk
    exact ⟨a, b, c', by rw [List.getElem?_append_left (lt_of_get h)]; exact h, r⟩
theorem Ex.new (g : Good p0 F S t) (c : Cell) : Ex p0 F S (fun n => F n ∨ n = S.length) (S ++ [c]) :=
  ⟨by rw [List.length_append]; omega, fun n h _ => List.getElem?_append_left h, fun n h => .inl h, fun n h k => k.elim id fun e => by omega⟩
/-- a new cell that nobody knows yet -/
theorem Good.raw (g : Good p0 F S t) (c : Cell) : Good p0 F (S ++ [c]) t := by
  refine ⟨?_, g.np, ?_⟩
  · intro n h; have := g.lt n h; rw [List.length_append]; omega
  · obtain ⟨a, b, c', h, r⟩ := g.dk
    exact ⟨a, b, c', by rw [List.getElem?_append_left (lt_of_get h)]; exact h, r⟩
theorem Ex.raw (c : Cell) : Ex p0 F S F (S ++ [c]) :=
  ⟨by rw [List.length_append]; omega, fun n h _ => List.getElem?_append_left h, fun n h => h, fun n h k => k⟩
theorem Po.lst {P : PV → Int → Prop} {vs : List PV} {ds : List D} (g : Good p0 F S t) (r : Reps p0 F S vs ds) (h : P (.lst vs) t) : Po Rep p0 F S P (.ptr S.length) (S ++ [.lst ds]) := by
  refine ⟨_, .lst vs, t, Ex.new g _, g.new _, ?_, h⟩
  unfold Rep
  exact ⟨S.length, ds, rfl, .inr rfl, get_last _ _, r.mono ((Ex.new g _).keep g)⟩
end
end RP

namespace RP
open PySem PySem.Spec PyProof.Rows L2 RL

section
variable {p0 : Nat} {F F' : Pl} {S S' : Store} {t : Int} {α β γ δ : Type}
/-! ### names, constants -/
def pVar (i : Nat) : PE := fun π t P _ => match π[i]? with
  | some (.val v) => P v t
  | _ => False
def pC (v : PV) : PE := fun _ t P _ => P v t
mutual
def cD : PV → D
  | .non => .non
  | .bl b => .bl b
  | .int i => .int i
  | .str s => .str s
  | .tup vs => .tup (cDs vs)
  | _ => .non
def cDs : List PV → List D
  | [] => []
  | v :: vs => cD v :: cDs vs
end
mutual
def cOk : PV → Bool
  | .non | .bl _ | .int _ | .str _ => true
  | .tup vs => cOks vs
  | _ => false
def cOks : List PV → Bool
  | [] => true
  | v :: vs => cOk v && cOks vs
end
mutual
theorem rep_c : ∀ v : PV, cOk v = true → Rep p0 F S v (cD v)
  | .non, _ => by unfold Rep cD; rfl
  | .bl b, _ => by unfold Rep cD; rfl
  | .int i, _ => by unfold Rep cD; rfl
  | .str s, _ => by unfold Rep cD; rfl
  | .tup vs, h => by unfold Rep cD; unfold cOk at h; exact ⟨_, rfl, reps_c vs h⟩
  | .lst _, h => by unfold cOk at h; cases h
  | .dct _, h => by unfold cOk at h; cases h
  | .dcx _, h => by unfold cOk at h; cases h
  | .deck, h => by unfold cOk at h; cases h
theorem reps_c : ∀ vs : List PV, cOks vs = true → Reps p0 F S vs (cDs vs)
  | [], _ => by unfold cDs; exact Reps.nil
  | v :: vs, h => by
    unfold cOks at h
    rw [Bool.and_eq_true] at h
    unfold cDs
    exact Reps.cons (rep_c v h.1) (reps_c vs h.2)
end
theorem sim_var (i : Nat) : SimE (eVar i) (pVar i) := by
  intro p0 F S b ρ π t P E re g h
  unfold pVar at h
  split at h
  · rename_i v e
    obtain ⟨d, e1, r⟩ := re.val i v e
    unfold eVar
    rw [e1]
    exact Po.here g r h
  · exact h.elim
theorem sim_c (v : PV) (h : cOk v = true) : SimE (eC (cD v)) (pC v) := by
  intro p0 F S b ρ π t P E re g k
  exact Po.here g (rep_c v h) k
theorem sim_non : SimE (eC .non) (pC .non) := sim_c .non rfl
theorem sim_bl (b : Bool) : SimE (eC (.bl b)) (pC (.bl b)) := sim_c (.bl b) rfl
theorem sim_int (i : Int) : SimE (eC (.int i)) (pC (.int i)) := sim_c (.int i) rfl
theorem sim_str (s : Str) : SimE (eC (.str s)) (pC (.str s)) := sim_c (.str s) rfl
/-! ### operators -/
def pBin (f : PV → PV → W PV) (a b : PE) : PE := fun π t P E => a π t (fun x t1 => b π t1 (fun y t2 => f x y t2 P E) E) E
theorem sim_bin {f : D → D → Store → Res D} {pf : PV → PV → W PV} {ma mb : ME} {pa pb : PE} (hf : SimOp f pf) (ha : SimE ma pa) (hb : SimE mb pb) : SimE (eBin f ma mb) (pBin pf pa pb) := by
  intro p0 F S b ρ π t P E re g h
  refine Sim.bind ha re g h fun F1 S1 x v t1 x1 g1 re1 r1 h1 => ?_
  refine Sim.bind hb re1 g1 h1 fun F2 S2 y w t2 x2 g2 re2 r2 h2 => ?_
  exact hf _ _ _ _ _ _ _ _ _ _ g2 (r1.mono (x2.keep g1)) r2 h2
def pTOf (m : PE) : PT := fun π t P E => m π t (fun v t1 => match v with
  | .bl b => P b t1
  | _ => False) E
theorem sim_tOf {m : ME} {pm : PE} (hm : SimE m pm) : SimT (tOf m) (pTOf pm) := by
  intro p0 F S b ρ π t P E re g h
  refine Sim.bind hm re g h fun F1 S1 x v t1 x1 g1 re1 r1 h1 => ?_
  cases v <;> try exact h1.elim
  unfold Rep at r1
  subst r1
  exact Po.here g1 rfl h1
def pNotM (m : PT) : PT := fun π t P E => m π t (fun b t1 => P (!b) t1) E
theorem sim_tNot {m : MT} {pm : PT} (hm : SimT m pm) : SimT (tNotM m) (pNotM pm) := by
  intro p0 F S b ρ π t P E re g h
  refine Sim.bind hm re g h fun F1 S1 x v t1 x1 g1 re1 r1 h1 => ?_
  cases r1
  exact Po.here g1 rfl h1
def pAndM (m n : PT) : PT := fun π t P E => m π t (fun b t1 => if b = true then n π t1 P E else P false t1) E
def pOrM (m n : PT) : PT := fun π t P E => m π t (fun b t1 => if b = true then P true t1 else n π t1 P E) E
theorem sim_tAnd {m n : MT} {pm pn : PT} (hm : SimT m pm) (hn : SimT n pn) : SimT (tAndM m n) (pAndM pm pn) := by
  intro p0 F S b ρ π t P E re g h
  refine Sim.bind hm re g h fun F1 S1 x v t1 x1 g1 re1 r1 h1 => ?_
  cases r1
  cases x
  · exact Po.here g1 rfl h1
  · exact hn _ _ _ _ _ _ _ _ _ re1 g1 h1
theorem sim_tOr {m n : MT} {pm pn : PT} (hm : SimT m pm) (hn : SimT n pn) : SimT (tOrM m n) (pOrM pm pn) := by
  intro p0 F S b ρ π t P E re g h
  refine Sim.bind hm re g h fun F1 S1 x v t1 x1 g1 re1 r1 h1 => ?_
  cases r1
  cases x
  · exact hn _ _ _ _ _ _ _ _ _ re1 g1 h1
  · exact Po.here g1 rfl h1
def pAndV (a b : PE) : PE := fun π t P E => a π t (fun v t1 => match v with
  | .bl c => if c = true then b π t1 P E else P (.bl false) t1
  | _ => False) E
def pOrV (a b : PE) : PE := fun π t P E => a π t (fun v t1 => match v with
  | .bl c => if c = true then P (.bl true) t1 else b π t1 P E
  | _ => False) E
def pNotV (a : PE) : PE := fun π t P E => a π t (fun v t1 => match v with
  | .bl b => P (.bl (!b)) t1
  | _ => False) E
theorem sim_andV {m n : ME} {pm pn : PE} (hm : SimE m pm) (hn : SimE n pn) : SimE (eAndV m n) (pAndV pm pn) := by
  intro p0 F S b ρ π t P E re g h
  refine Sim.bind hm re g h fun F1 S1 x v t1 x1 g1 re1 r1 h1 => ?_
  cases v <;> try exact h1.elim
  rename_i c
  unfold Rep at r1
  subst r1
  cases c
  · exact Po.here g1 (by unfold Rep; rfl) h1
  · exact hn _ _ _ _ _ _ _ _ _ re1 g1 h1
theorem sim_orV {m n : ME} {pm pn : PE} (hm : SimE m pm) (hn : SimE n pn) : SimE (eOrV m n) (pOrV pm pn) := by
  intro p0 F S b ρ π t P E re g h
  refine Sim.bind hm re g h fun F1 S1 x v t1 x1 g1 re1 r1 h1 => ?_
  cases v <;> try exact h1.elim
  rename_i c
  unfold Rep at r1
  subst r1
  cases c
  · exact hn _ _ _ _ _ _ _ _ _ re1 g1 h1
  · exact Po.here g1 (by unfold Rep; rfl) h1
theorem sim_notV {m : ME} {pm : PE} (hm : SimE m pm) : SimE (eNotV m) (pNotV pm) := by
  intro p0 F S b ρ π t P E re g h
  refine Sim.bind hm re g h fun F1 S1 x v t1 x1 g1 re1 r1 h1 => ?_
  cases v <;> try exact h1.elim
  unfold Rep at r1
  subst r1
  exact Po.here g1 (by unfold Rep; rfl) h1
def pIf (c : PT) (a b : PE) : PE := fun π t P E => c π t (fun v t1 => if v = true then a π t1 P E else b π t1 P E) E
theorem sim_eIf {c : MT} {m n : ME} {pc : PT} {pm pn : PE} (hc : SimT c pc) (hm : SimE m pm) (hn : SimE n pn) : SimE (eIf c m n) (pIf pc pm pn) := by
  intro p0 F S b ρ π t P E re g h
  refine Sim.bind hc re g h fun F1 S1 x v t1 x1 g1 re1 r1 h1 => ?_
  cases r1
  cases x
  · exact hn _ _ _ _ _ _ _ _ _ re1 g1 h1
  · exact hm _ _ _ _ _ _ _ _ _ re1 g1 h1
def pChain (f g : PV → PV → W PV) (a b c : PE) : PE := fun π t P E => a π t (fun x t1 => b π t1 (fun y t2 => f x y t2 (fun z t3 => match z with
  | .bl q => if q = true then c π t3 (fun w t4 => g y w t4 P E) E else P (.bl false) t3
  | _ => False) E) E) E
theorem sim_chain {f f' : D → D → Store → Res D} {pf pf' : PV → PV → W PV} {ma mb mc : ME} {pa pb pc : PE} (hf : SimOp f pf) (hf' : SimOp f' pf') (ha : SimE ma pa) (hb : SimE mb pb) (hc : SimE mc pc) : SimE (eChain f f' ma mb mc) (pChain pf pf' pa pb pc) := by
  intro p0 F S b ρ π t P E re g h
  refine Sim.bind ha re g h fun F1 S1 x v t1 x1 g1 re1 r1 h1 => ?_
  refine Sim.bind hb re1 g1 h1 fun F2 S2 y w t2 x2 g2 re2 r2 h2 => ?_
  refine RO.bind ((hf _ _ _ _ _ _ _ _ _ _ g2 (r1.mono (x2.keep g1)) r2 h2).mono ?_ fun _ _ z => z)
  rintro z S3 ⟨F3, u, t3, x3, g3, r3, h3⟩
  refine RO.mono ?_ (fun _ _ q => Po.lift x3 q) fun _ _ q => Po.lift x3 q
  cases u <;> try exact h3.elim
  rename_i q
  unfold Rep at r3
  subst r3
  cases q
  · exact Po.here g3 (by unfold Rep; rfl) h3
  · refine Sim.bind hc (re2.ex x3 g2) g3 h3 fun F4 S4 y' w' t4 x4 g4 re4 r4 h4 => ?_
    exact hf' _ _ _ _ _ _ _ _ _ _ g4 (r2.mono ((x3.trans x4).keep g2)) r4 h4
def pSub : PV → PV → W PV := fun x y t P _ => match x, y with
  | .int i, .int j => P (.int (i - j)) t
  | _, _ => False
theorem sop_sub : SimOp oSub pSub := by
  intro p0 F S x y v w t P E g r1 r2 h
  unfold pSub at h
  split at h
  · unfold Rep at r1 r2; subst r1 r2; exact Po.here g (by unfold Rep; rfl) h
  · exact h.elim
def pMod : PV → PV → W PV := fun x y t P _ => match x, y with
  | .int i, .int j => 0 < j ∧ P (.int (i % j)) t
  | _, _ => False
theorem sop_mod : SimOp oMod pMod := by
  intro p0 F S x y v w t P E g r1 r2 h
  unfold pMod at h
  split at h
  · unfold Rep at r1 r2; subst r1 r2
    unfold oMod; simp only; rw [if_pos h.1]
    exact Po.here g (by unfold Rep; rfl) h.2
  · exact h.elim
def pDiv : PV → PV → W PV := fun x y t P _ => match x, y with
  | .int i, .int j => (0 < j ∧ j.natAbs.log2 < 9000) ∧ P (.int (i / j)) t
  | _, _ => False
theorem sop_div : SimOp oDiv pDiv := by
  intro p0 F S x y v w t P E g r1 r2 h
  unfold pDiv at h
  split at h
  · unfold Rep at r1 r2; subst r1 r2
    unfold oDiv; simp only; rw [if_pos h.1]
    exact Po.here g (by unfold Rep; rfl) h.2
  · exact h.elim
def pPow : PV → PV → W PV := fun x y t P _ => match x, y with
  | .int i, .int j => (0 ≤ j ∧ j ≤ 1000000 ∧ i.natAbs < 2 ^ 64) ∧ P (.int (i ^ j.toNat)) t
  | _, _ => False
theorem sop_pow : SimOp oPow pPow := by
  intro p0 F S x y v w t P E g r1 r2 h
  unfold pPow at h
  split at h
  · unfold Rep at r1 r2; subst r1 r2
    unfold oPow; simp only; rw [if_pos h.1]
    exact Po.here g (by unfold Rep; rfl) h.2
  · exact h.elim
theorem Rep.lstL {vs : List PV} {x : D} (h : Rep p0 F S (.lst vs) x) : ∃ n ds, x = .ptr n ∧ F n ∧ S[n]? = some (.lst ds) ∧ Reps p0 F S vs ds := by unfold Rep at h; exact h
theorem Rep.tupL {vs : List PV} {x : D} (h : Rep p0 F S (.tup vs) x) : ∃ ds, x = .tup ds ∧ Reps p0 F S vs ds := by unfold Rep at h; exact h
theorem Rep.tupI {vs : List PV} {ds : List D} (h : Reps p0 F S vs ds) : Rep p0 F S (.tup vs) (.tup ds) := by unfold Rep; exact ⟨ds, rfl, h⟩
/-- lists that are frozen for good are of the kind that may be changed, too -/
def pAdd : PV → PV → W PV := fun x y t P _ => match x, y with
  | .int i, .int j => P (.int (i + j)) t
  | .str a, .str b => a.length + b.length ≤ sizeLine ∧ P (.str (a ++ b)) t
  | .tup a, .tup b => a.length + b.length ≤ sizeLine ∧ P (.tup (a ++ b)) t
  | .lst a, .lst b => a.length + b.length ≤ sizeLine ∧ P (.lst (a ++ b)) t
  | _, _ => False
theorem sop_add : SimOp oAdd pAdd := by
  intro p0 F S x y v w t P E g r1 r2 h
  unfold pAdd at h
  split at h
  · unfold Rep at r1 r2; subst r1 r2; exact Po.here g (by unfold Rep; rfl) h
  · unfold Rep at r1 r2; subst r1 r2
    unfold oAdd; simp only; rw [if_pos h.1]
    exact Po.here g (by unfold Rep; rfl) h.2
  · obtain ⟨ds, rfl, k1⟩ := r1.tupL
    obtain ⟨es, rfl, k2⟩ := r2.tupL
    unfold oAdd; simp only; rw [if_pos (by rw [k1.len, k2.len]; exact h.1)]
    exact Po.here g (Rep.tupI (k1.append k2)) h.2
  · obtain ⟨n, ds, rfl, f1, c1, k1⟩ := r1.lstL
    obtain ⟨m, es, rfl, f2, c2, k2⟩ := r2.lstL
    unfold oAdd; simp only [c1, c2]; rw [if_pos (by rw [k1.len, k2.len]; exact h.1)]
    exact Po.lst g (k1.append k2) h.2
  · exact h.elim
def pMul : PV → PV → W PV := fun x y t P _ => match x, y with
  | .int i, .int j => (Builtin.Int.intBits i : Int) + (Builtin.Int.intBits j : Int) ≤ 134217728 ∧ P (.int (i * j)) t
  | .lst a, .int k => (-(2 ^ 63) ≤ k ∧ k < 2 ^ 63 ∧ a.length * k.toNat ≤ sizeLine) ∧ P (.lst (List.replicate k.toNat a).flatten) t
  | .tup a, .int k => (a.isEmpty = false ∧ 2 ≤ k ∧ k ≤ 1000 ∧ a.length ≤ 1000) ∧ P (.tup (List.replicate k.toNat a).flatten) t
  | _, _ => False
theorem Reps.emp {vs : List PV} {ds : List D} (h : Reps p0 F S vs ds) : ds.isEmpty = vs.isEmpty := by
  have := h.len
  cases ds <;> cases vs <;> simp_all
theorem sop_mul : SimOp oMul pMul := by
  intro p0 F S x y v w t P E g r1 r2 h
  unfold pMul at h
  split at h
  · unfold Rep at r1 r2; subst r1 r2
    unfold oMul; simp only; rw [if_pos h.1]
    exact Po.here g (by unfold Rep; rfl) h.2
  · obtain ⟨n, ds, rfl, f1, c1, k1⟩ := r1.lstL
    unfold Rep at r2; subst r2
    unfold oMul; simp only [c1]; rw [if_pos (by rw [k1.len]; exact h.1)]
    exact Po.lst g (k1.replicate _) h.2
  · obtain ⟨ds, rfl, k1⟩ := r1.tupL
    unfold Rep at r2; subst r2
    unfold oMul; simp only; rw [if_pos (by rw [k1.len, k1.emp]; exact h.1)]
    exact Po.here g (Rep.tupI (k1.replicate _)) h.2
  · exact h.elim
def intsP : List PV → Option (List Int)
  | [] => some []
  | .int i :: r => match intsP r with
    | some ns => some (i :: ns)
    | none => none
  | _ => none
theorem ints_rep : ∀ {vs : List PV} {ds : List D} {ns : List Int}, Reps p0 F S vs ds → intsP vs = some ns → intsOf ds = some ns
  | [], _, _, h, e => by unfold Reps at h; subst h; unfold intsP at e; cases e; rfl
  | v :: vs, _, ns, h, e => by
    unfold Reps at h
    obtain ⟨d, r, rfl, h1, h2⟩ := h
    unfold intsP at e
    split at e
    · rename_i e0; cases e0
    · rename_i i q e0
      cases e0
      unfold Rep at h1; subst h1
      cases hq : intsP vs with
      | none => rw [hq] at e; cases e
      | some ms =>
        rw [hq] at e; cases e
        unfold intsOf
        rw [ints_rep h2 hq]
    · cases e
def pLt : PV → PV → W PV := fun x y t P _ => match x, y with
  | .int i, .int j => P (.bl (decide (i < j))) t
  | .tup a, .tup b => ∃ ns ms, intsP a = some ns ∧ intsP b = some ms ∧ P (.bl (HT.lexLt ns ms)) t
  | _, _ => False
theorem sop_lt : SimOp oLt pLt := by
  intro p0 F S x y v w t P E g r1 r2 h
  unfold pLt at h
  split at h
  · unfold Rep at r1 r2; subst r1 r2; exact Po.here g (by unfold Rep; rfl) h
  · obtain ⟨ds, rfl, k1⟩ := r1.tupL
    obtain ⟨es, rfl, k2⟩ := r2.tupL
    obtain ⟨ns, ms, e1, e2, h⟩ := h
    unfold oLt; simp only [ints_rep k1 e1, ints_rep k2 e2]
    exact Po.here g (by unfold Rep; rfl) h
  · exact h.elim
def pLe : PV → PV → W PV := fun x y t P _ => match x, y with
  | .int i, .int j => P (.bl (decide (i ≤ j))) t
  | _, _ => False
def pGt : PV → PV → W PV := fun x y t P _ => match x, y with
  | .int i, .int j => P (.bl (decide (j < i))) t
  | _, _ => False
def pGe : PV → PV → W PV := fun x y t P _ => match x, y with
  | .int i, .int j => P (.bl (decide (j ≤ i))) t
  | _, _ => False
theorem sop_le : SimOp oLe pLe := by
  intro p0 F S x y v w t P E g r1 r2 h
  unfold pLe at h
  split at h
  · unfold Rep at r1 r2; subst r1 r2; exact Po.here g (by unfold Rep; rfl) h
  · exact h.elim
theorem sop_gt : SimOp oGt pGt := by
  intro p0 F S x y v w t P E g r1 r2 h
  unfold pGt at h
  split at h
  · unfold Rep at r1 r2; subst r1 r2; exact Po.here g (by unfold Rep; rfl) h
  · exact h.elim
theorem sop_ge : SimOp oGe pGe := by
  intro p0 F S x y v w t P E g r1 r2 h
  unfold pGe at h
  split at h
  · unfold Rep at r1 r2; subst r1 r2; exact Po.here g (by unfold Rep; rfl) h
  · exact h.elim
def isNonP : PV → Bool
  | .non => true
  | _ => false
def isNonD : D → Bool
  | .non => true
  | _ => false
theorem non_rep {v : PV} {d : D} (h : Rep p0 F S v d) : isNonD d = isNonP v := by
  cases v with
  | non => unfold Rep at h; subst h; rfl
  | bl b => unfold Rep at h; subst h; rfl
  | int b => unfold Rep at h; subst h; rfl
  | str b => unfold Rep at h; subst h; rfl
  | deck => unfold Rep at h; subst h; rfl
  | tup b => obtain ⟨_, rfl, _⟩ := h.tupL; rfl
  | lst b => obtain ⟨_, _, rfl, _⟩ := h.lstL; rfl
  | dct b => unfold Rep at h; obtain ⟨_, _, rfl, _⟩ := h; rfl
  | dcx b => unfold Rep at h; obtain ⟨_, _, rfl, _⟩ := h; rfl
def pIs : PV → PV → W PV := fun x y t P _ => isNonP y = true ∧ P (.bl (isNonP x)) t
def pIsNot : PV → PV → W PV := fun x y t P _ => isNonP y = true ∧ P (.bl (!isNonP x)) t
theorem sop_is : SimOp oIs pIs := by
  intro p0 F S x y v w t P E g r1 r2 h
  have e1 := non_rep r1
  have e2 := non_rep r2
  rw [h.1] at e2
  have e3 : y = .non := by cases y <;> first | rfl | cases e2
  subst e3
  have e4 : oIs x .non S = .ok (.bl (isNonP v)) S := by
    rw [← e1]; cases x <;> rfl
  rw [e4]
  exact Po.here g (by unfold Rep; rfl) h.2
theorem sop_isnot : SimOp oIsNot pIsNot := by
  intro p0 F S x y v w t P E g r1 r2 h
  have e1 := non_rep r1
  have e2 := non_rep r2
  rw [h.1] at e2
  have e3 : y = .non := by cases y <;> first | rfl | cases e2
  subst e3
  have e4 : oIsNot x .non S = .ok (.bl (!isNonP v)) S := by
    rw [← e1]; cases x <;> rfl
  rw [e4]
  exact Po.here g (by unfold Rep; rfl) h.2
/-! ### what a value shows -/
def shO : Nat → PV → Option PyData
  | 0, _ => none
  | _ + 1, .non => some .none
  | _ + 1, .bl b => some (.bool b)
  | _ + 1, .int i => some (.int i)
  | _ + 1, .str s => some (.str s)
  | k + 1, .tup ds => (mapO (shO k) ds).map PyData.tuple
  | k + 1, .lst ds => (mapO (shO k) ds).map PyData.list
  | k + 1, .dct kvs => (mapO (fun kv => (shO k kv.2).map fun v => (RL.keyP kv.1, v)) kvs).map PyData.dict
  | _ + 1, _ => none
theorem mapO_rep {f : PV → Option PyData} {g : D → Option PyData} (hfg : ∀ v d q, Rep p0 F S v d → f v = some q → g d = some q) : ∀ {vs : List PV} {ds : List D} {qs : List PyData}, Reps p0 F S vs ds → mapO f vs = some qs → mapO g ds = some qs
  | [], _, _, h, e => by unfold Reps at h; subst h; exact e
  | v :: vs, _, qs, h, e => by
    unfold Reps at h
    obtain ⟨d, r, rfl, h1, h2⟩ := h
    unfold mapO at e ⊢
    cases hv : f v with
    | none => rw [hv] at e; cases e
    | some q =>
      cases hs : mapO f vs with
      | none => rw [hv, hs] at e; cases e
      | some ps =>
        rw [hv, hs] at e
        rw [hfg v d q h1 hv, mapO_rep hfg h2 hs]
        exact e
theorem mapO_repK {f : PV → Option PyData} {g : D → Option PyData} (hfg : ∀ v d q, Rep p0 F S v d → f v = some q → g d = some q) : ∀ {vs : List (L2.Key × PV)} {ds : List (L2.Key × D)} {qs : List (PyData × PyData)}, RepK p0 F S vs ds →
    mapO (fun kv : L2.Key × PV => (f kv.2).map fun v => (RL.keyP kv.1, v)) vs = some qs → mapO (fun kv : L2.Key × D => (g kv.2).map fun v => (RL.keyP kv.1, v)) ds = some qs
  | [], ds, qs, h, e => by unfold RepK at h; subst h; exact e
  | (k, v) :: vs, _, qs, h, e => by
    unfold RepK at h
    obtain ⟨d, r, rfl, h1, h2⟩ := h
    obtain ⟨y, ys, e1, e2, rfl⟩ := mapO_cons e
    obtain ⟨q, q1, rfl⟩ := Option.map_eq_some_iff.mp e1
    have a := hfg v d q h1 q1
    have b := mapO_repK hfg h2 e2
    unfold mapO
    simp only [a, b, Option.map_some]
theorem sh_rep : ∀ (k : Nat) (v : PV) (d : D) (q : PyData), Rep p0 F S v d → shO k v = some q → deep S k d = some q
  | 0, _, _, _, _, e => by unfold shO at e; cases e
  | k + 1, .non, _, _, h, e => by unfold Rep at h; subst h; exact e
  | k + 1, .bl _, _, _, h, e => by unfold Rep at h; subst h; exact e
  | k + 1, .int _, _, _, h, e => by unfold Rep at h; subst h; exact e
  | k + 1, .str _, _, _, h, e => by unfold Rep at h; subst h; exact e
  | k + 1, .deck, _, _, _, e => by unfold shO at e; cases e
  | k + 1, .dcx _, _, _, _, e => by unfold shO at e; cases e
  | k + 1, .dct vs, _, q, h, e => by
    unfold Rep at h
    obtain ⟨n, ds, rfl, f, c, r⟩ := h
    unfold shO at e
    unfold deep
    obtain ⟨qs, e1, e2⟩ := Option.map_eq_some_iff.mp e
    rw [c]
    simp only
    rw [mapO_repK (sh_rep k) r e1, ← e2]
    rfl
  | k + 1, .tup vs, _, q, h, e => by
    obtain ⟨ds, rfl, r⟩ := h.tupL
    unfold shO at e
    unfold deep
    obtain ⟨qs, e1, e2⟩ := Option.map_eq_some_iff.mp e
    rw [mapO_rep (sh_rep k) r e1, ← e2]
    rfl
  | k + 1, .lst vs, _, q, h, e => by
    obtain ⟨n, ds, rfl, f, c, r⟩ := h.lstL
    unfold shO at e
    unfold deep
    obtain ⟨qs, e1, e2⟩ := Option.map_eq_some_iff.mp e
    rw [c]
    simp only
    rw [mapO_rep (sh_rep k) r e1, ← e2]
    rfl
abbrev shP : PV → Option PyData := shO deepLine
def strB : PV → Bool
  | .str _ => true
  | _ => false
def pEq : PV → PV → W PV := fun x y t P _ => match x, y with
  | .str a, .str b => P (.bl (a == b)) t
  | x, y => ∃ d e, shP x = some d ∧ shP y = some e ∧ SeqAt.shaped d = true ∧ SeqAt.shaped e = true ∧ P (.bl (PyData.eqv d e)) t
def pNe : PV → PV → W PV := fun x y t P _ => match x, y with
  | .str a, .str b => P (.bl (!(a == b))) t
  | x, y => ∃ d e, shP x = some d ∧ shP y = some e ∧ SeqAt.shaped d = true ∧ SeqAt.shaped e = true ∧ P (.bl (!PyData.eqv d e)) t
theorem sop_eq : SimOp oEq pEq := by
  intro p0 F S x y v w t P E g r1 r2 h
  unfold pEq at h
  split at h
  · unfold Rep at r1 r2; subst r1 r2
    exact Po.here g (by unfold Rep; rfl) h
  · obtain ⟨d, e, h1, h2, h3, h4, h⟩ := h
    rw [oEq_of (sh_rep _ _ _ _ r1 h1) (sh_rep _ _ _ _ r2 h2) h3 h4]
    exact Po.here g (by unfold Rep; rfl) h
theorem sop_ne : SimOp oNe pNe := by
  intro p0 F S x y v w t P E g r1 r2 h
  unfold pNe at h
  split at h
  · unfold Rep at r1 r2; subst r1 r2
    exact Po.here g (by unfold Rep; rfl) h
  · obtain ⟨d, e, h1, h2, h3, h4, h⟩ := h
    rw [oNe_of (sh_rep _ _ _ _ r1 h1) (sh_rep _ _ _ _ r2 h2) h3 h4]
    exact Po.here g (by unfold Rep; rfl) h
end
end RP

namespace RP
open PySem PySem.Spec PyProof.Rows L2 RL PySem.SeqAt

section
variable {p0 : Nat} {F F' : Pl} {S S' : Store} {t : Int} {α β γ δ : Type}
/-! ### displays, items, slices -/
def pNil : PA := fun _ t P _ => P [] t
def pCons (m : PE) (ms : PA) : PA := fun π t P E => m π t (fun x t1 => ms π t1 (fun xs t2 => P (x :: xs) t2) E) E
theorem sim_nil : SimA aNil pNil := by
  intro p0 F S b ρ π t P E re g h
  exact Po.here g Reps.nil h
theorem sim_cons {m : ME} {ms : MA} {pm : PE} {pms : PA} (hm : SimE m pm) (hs : SimA ms pms) : SimA (aCons m ms) (pCons pm pms) := by
  intro p0 F S b ρ π t P E re g h
  refine Sim.bind hm re g h fun F1 S1 x v t1 x1 g1 re1 r1 h1 => ?_
  refine Sim.bind hs re1 g1 h1 fun F2 S2 y w t2 x2 g2 re2 r2 h2 => ?_
  exact Po.here g2 (Reps.cons (r1.mono (x2.keep g1)) r2) h2
def pTup (ms : PA) : PE := fun π t P E => ms π t (fun xs t1 => xs.length ≤ sizeLine ∧ P (.tup xs) t1) E
def pLst (ms : PA) : PE := fun π t P E => ms π t (fun xs t1 => xs.length ≤ sizeLine ∧ P (.lst xs) t1) E
theorem sim_tup {ms : MA} {pms : PA} (hs : SimA ms pms) : SimE (eTup ms) (pTup pms) := by
  intro p0 F S b ρ π t P E re g h
  refine Sim.bind hs re g h fun F2 S2 y w t2 x2 g2 re2 r2 h2 => ?_
  rw [if_pos (by rw [r2.len]; exact h2.1)]
  exact Po.here g2 (Rep.tupI r2) h2.2
theorem sim_lst {ms : MA} {pms : PA} (hs : SimA ms pms) : SimE (eLst ms) (pLst pms) := by
  intro p0 F S b ρ π t P E re g h
  refine Sim.bind hs re g h fun F2 S2 y w t2 x2 g2 re2 r2 h2 => ?_
  rw [if_pos (by rw [r2.len]; exact h2.1)]
  exact Po.lst g2 r2 h2.2
def pDict0 : PE := fun _ t P _ => P (.dct []) t
theorem sim_dict0 : SimE eDict0 pDict0 := by
  intro p0 F S b ρ π t P E re g h
  refine ⟨_, .dct [], t, Ex.new g _, g.new _, ?_, h⟩
  unfold Rep
  exact ⟨S.length, [], rfl, .inr rfl, get_last _ _, by unfold RepK; rfl⟩
def pDict1 (k : L2.Key) (pm : PE) : PE := fun π t P E => pm π t (fun v t1 => P (.dct [(k, v)]) t1) E
theorem sim_dict1 (k : L2.Key) {m : ME} {pm : PE} (hm : SimE m pm) : SimE (eDict1 k m) (pDict1 k pm) := by
  intro p0 F S b ρ π t P E re g h
  have x0 : Ex p0 F S F (S ++ [.dct []]) := Ex.raw _
  have g0 := g.raw (.dct [])
  unfold eDict1
  refine RO.bind ((hm p0 F _ b ρ π t _ E (re.ex x0 g) g0 h).mono ?_ fun _ _ z => Po.lift x0 z)
  rintro d S1 ⟨F1, v, t1, x1, g1, r1, h1⟩
  have hl : S.length < (S ++ [Cell.dct []]).length := by simp
  have hp : S.length ≠ p0 := fun z => by have := g.p0lt; omega
  have e1 : S1[S.length]? = some (.dct []) := by rw [x1.same _ hl hp]; exact get_last _ _
  have nf : ¬ F1 S.length := fun z => by have := g.lt _ (x1.old _ hl z); omega
  rw [e1]
  simp only
  have sq : ∀ n, n ≠ S.length → (S1.set S.length (.dct [(k, d)]))[n]? = S1[n]? := fun n hn => List.getElem?_set_ne fun z => hn z.symm
  have kp : Keep F1 S1 (fun n => F1 n ∨ n = S.length) (S1.set S.length (.dct [(k, d)])) := fun n hn => ⟨.inl hn, sq n fun z => nf (by rw [← z]; exact hn)⟩
  have l1 := x1.len
  rw [List.length_append] at l1
  refine ⟨fun n => F1 n ∨ n = S.length, .dct [(k, v)], t1, ⟨by rw [List.length_set]; omega, fun n hn hp' => ?_, fun n hn => .inl (x1.up n hn), fun n hn z => ?_⟩, ⟨fun n hn => ?_, fun z => z.elim g1.np fun e => hp e.symm, ?_⟩, ?_, h1⟩
  · rw [sq n (by omega), x1.same n (by rw [List.length_append]; omega) hp', List.getElem?_append_left hn]
  · rcases z with z | z
    · exact x1.old n (by rw [List.length_append]; omega) z
    · omega
  · rw [List.length_set]
    rcases hn with z | z
    · exact g1.lt n z
    · rw [z]; exact lt_of_get e1
  · obtain ⟨a, b', c', hd, rr⟩ := g1.dk
    exact ⟨a, b', c', by rw [sq p0 fun z => hp z.symm]; exact hd, rr⟩
  · unfold Rep
    refine ⟨S.length, _, rfl, .inr rfl, List.getElem?_set_self (lt_of_get e1), ?_⟩
    unfold RepK
    exact ⟨d, [], rfl, r1.mono kp, by unfold RepK; rfl⟩
theorem Reps.at {vs : List PV} {ds : List D} {i : Int} {v : PV} (r : Reps p0 F S vs ds) (e : atI vs i = some v) : ∃ d, atD ds i = some d ∧ Rep p0 F S v d := by
  unfold atI at e
  unfold atD atI
  rw [r.len]
  obtain ⟨j, h1, h2⟩ := Option.bind_eq_some_iff.mp e
  rw [h1]
  exact r.get h2
def pIx : PV → PV → W PV := fun x y t P _ => match x, y with
  | .tup xs, .int i => ∃ v, atI xs i = some v ∧ P v t
  | .lst xs, .int i => ∃ v, atI xs i = some v ∧ P v t
  | .str z, .int i => z.length ≤ sizeLine ∧ ∃ c, atI z.cps.toList i = some c ∧ P (.str ⟨#[c]⟩) t
  | _, _ => False
theorem sop_ix : SimOp oIx pIx := by
  intro p0 F S x y v w t P E g r1 r2 h
  unfold pIx at h
  split at h
  · obtain ⟨ds, rfl, k1⟩ := r1.tupL
    unfold Rep at r2; subst r2
    obtain ⟨u, e, h⟩ := h
    obtain ⟨d, e2, r⟩ := k1.at e
    unfold oIx; simp only [e2]
    exact Po.here g r h
  · obtain ⟨n, ds, rfl, f, c, k1⟩ := r1.lstL
    unfold Rep at r2; subst r2
    obtain ⟨u, e, h⟩ := h
    obtain ⟨d, e2, r⟩ := k1.at e
    unfold oIx; simp only [c, e2]
    exact Po.here g r h
  · unfold Rep at r1 r2; subst r1 r2
    obtain ⟨hz, c, e, h⟩ := h
    unfold oIx; simp only [e]
    rw [if_pos hz]
    exact Po.here g (by unfold Rep; rfl) h
  · exact h.elim
def poNone : PO := fun _ t P _ => P none t
def poSome (m : PE) : PO := fun π t P E => m π t (fun v t1 => match v with
  | .int i => P (some i) t1
  | _ => False) E
theorem sim_none : SimO pNone poNone := by
  intro p0 F S b ρ π t P E re g h
  exact Po.here g rfl h
theorem sim_some {m : ME} {pm : PE} (hm : SimE m pm) : SimO (pSome m) (poSome pm) := by
  intro p0 F S b ρ π t P E re g h
  refine Sim.bind hm re g h fun F1 S1 x v t1 x1 g1 re1 r1 h1 => ?_
  cases v <;> try exact h1.elim
  unfold Rep at r1; subst r1
  exact Po.here g1 rfl h1
def cutP {α : Type} (xs : List α) (lo hi : Option Int) : List α := (xs.drop (HT.sIx xs.length 0 lo)).take (HT.sIx xs.length xs.length hi - HT.sIx xs.length 0 lo)
theorem Reps.cut {vs : List PV} {ds : List D} (r : Reps p0 F S vs ds) (lo hi : Option Int) : Reps p0 F S (cutP vs lo hi) (RL.cutD ds lo hi) := by
  unfold cutP RL.cutD
  rw [r.len]
  exact (r.drop _).take _
def pSlc (x : PV) (lo hi : Option Int) : W PV := fun t P _ => match x with
  | .tup xs => P (.tup (cutP xs lo hi)) t
  | .lst xs => P (.lst (cutP xs lo hi)) t
  | .str z => z.length ≤ sizeLine ∧ P (.str (cutS z lo hi)) t
  | _ => False
def pSl (m : PE) (lo hi : PO) : PE := fun π t P E => m π t (fun x t1 => lo π t1 (fun l t2 => hi π t2 (fun u t3 => pSlc x l u t3 P E) E) E) E
theorem sim_sl {m : ME} {lo hi : MO} {pm : PE} {plo phi : PO} (hm : SimE m pm) (hl : SimO lo plo) (hh : SimO hi phi) : SimE (eSl m lo hi) (pSl pm plo phi) := by
  intro p0 F S b ρ π t P E re g h
  refine Sim.bind hm re g h fun F1 S1 x v t1 x1 g1 re1 r1 h1 => ?_
  refine Sim.bind hl re1 g1 h1 fun F2 S2 l l' t2 x2 g2 re2 e2 h2 => ?_
  refine Sim.bind hh re2 g2 h2 fun F3 S3 u u' t3 x3 g3 re3 e3 h3 => ?_
  cases e2; cases e3
  have r3 := r1.mono ((x2.trans x3).keep g1)
  unfold pSlc at h3
  split at h3
  · obtain ⟨ds, rfl, k⟩ := r3.tupL
    exact Po.here g3 (Rep.tupI (k.cut _ _)) h3
  · obtain ⟨n, ds, rfl, f, c, k⟩ := r3.lstL
    unfold oSl; simp only [c]
    exact Po.lst g3 (k.cut _ _) h3
  · unfold Rep at r3; subst r3
    unfold oSl; simp only; rw [if_pos h3.1]
    exact Po.here g3 (by unfold Rep; rfl) h3.2
  · exact h3.elim
def pRev (m : PE) : PE := fun π t P E => m π t (fun x t1 => match x with
  | .tup xs => P (.tup xs.reverse) t1
  | .lst xs => P (.lst xs.reverse) t1
  | _ => False) E
theorem sim_rev {m : ME} {pm : PE} (hm : SimE m pm) : SimE (eRev m) (pRev pm) := by
  intro p0 F S b ρ π t P E re g h
  refine Sim.bind hm re g h fun F1 S1 x v t1 x1 g1 re1 r1 h1 => ?_
  cases v <;> try exact h1.elim
  · obtain ⟨ds, rfl, k⟩ := r1.tupL
    exact Po.here g1 (Rep.tupI k.reverse) h1
  · obtain ⟨n, ds, rfl, f, c, k⟩ := r1.lstL
    unfold oRev; simp only [c]
    exact Po.lst g1 k.reverse h1
def pNeg (m : PE) : PE := fun π t P E => m π t (fun x t1 => match x with
  | .int i => P (.int (-i)) t1
  | _ => False) E
theorem sim_neg {m : ME} {pm : PE} (hm : SimE m pm) : SimE (eNeg m) (pNeg pm) := by
  intro p0 F S b ρ π t P E re g h
  refine Sim.bind hm re g h fun F1 S1 x v t1 x1 g1 re1 r1 h1 => ?_
  cases v <;> try exact h1.elim
  unfold Rep at r1; subst r1
  exact Po.here g1 (by unfold Rep; rfl) h1
def truP : PV → Option Bool
  | .non => some false
  | .bl b => some b
  | .int i => some (i != 0)
  | .str y => if y.length ≤ sizeLine then some ((y.length : Int) != 0) else none
  | .tup xs => some (!xs.isEmpty)
  | .lst xs => some (!xs.isEmpty)
  | _ => none
theorem tru_rep {v : PV} {d : D} {b : Bool} (r : Rep p0 F S v d) (h : truP v = some b) : truD S d = some b := by
  cases v with
  | tup xs => obtain ⟨ds, rfl, k⟩ := r.tupL; unfold truP at h; unfold truD; simp only; rw [k.emp]; exact h
  | lst xs => obtain ⟨n, ds, rfl, f, c, k⟩ := r.lstL; unfold truP at h; unfold truD; simp only [c]; rw [k.emp]; exact h
  | dct xs => cases h
  | dcx xs => cases h
  | deck => cases h
  | _ => unfold Rep at r; subst r; exact h
def pTru (m : PE) : PT := fun π t P E => m π t (fun x t1 => ∃ b, truP x = some b ∧ P b t1) E
theorem sim_tru {m : ME} {pm : PE} (hm : SimE m pm) : SimT (tTru m) (pTru pm) := by
  intro p0 F S b ρ π t P E re g h
  refine Sim.bind hm re g h fun F1 S1 x v t1 x1 g1 re1 r1 h1 => ?_
  obtain ⟨c, e, h1⟩ := h1
  rw [tru_rep r1 e]
  exact Po.here g1 rfl h1
def kindP : PV → Option String
  | .non => some "NoneType"
  | .bl _ => some "bool"
  | .int _ => some "int"
  | .str _ => some "str"
  | .tup _ => some "tuple"
  | .lst _ => some "list"
  | .dct _ => some "dict"
  | .dcx _ => none
  | .deck => none
theorem kind_rep {v : PV} {d : D} {k : String} (r : Rep p0 F S v d) (h : kindP v = some k) : kindD S d = some k := by
  cases v with
  | tup xs => obtain ⟨ds, rfl, _⟩ := r.tupL; exact h
  | lst xs => obtain ⟨n, ds, rfl, f, c, _⟩ := r.lstL; unfold kindD; simp only; rw [c]; exact h
  | dct xs => unfold Rep at r; obtain ⟨n, ds, rfl, f, c, _⟩ := r; unfold kindD; simp only; rw [c]; exact h
  | dcx xs => cases h
  | deck => cases h
  | _ => unfold Rep at r; subst r; exact h
def pIsi (T : String) (m : PE) : PE := fun π t P E => m π t (fun x t1 => ∃ k, kindP x = some k ∧ P (.bl (isiB k T)) t1) E
theorem sim_isi {T : String} {m : ME} {pm : PE} (hm : SimE m pm) : SimE (eIsi T m) (pIsi T pm) := by
  intro p0 F S b ρ π t P E re g h
  refine Sim.bind hm re g h fun F1 S1 x v t1 x1 g1 re1 r1 h1 => ?_
  obtain ⟨c, e, h1⟩ := h1
  rw [kind_rep r1 e]
  exact Po.here g1 (by unfold Rep; rfl) h1
/-! ### functions of Python -/
def pCall (f : PF) (ms : PA) : PE := fun π t P E => ms π t (fun xs t1 => f xs t1 P E) E
theorem sim_call {f : Fn} {pf : PF} {ms : MA} {pms : PA} (hf : SimF f pf) (hs : SimA ms pms) : SimE (eCall f ms) (pCall pf pms) := by
  intro p0 F S b ρ π t P E re g h
  refine Sim.bind hs re g h fun F2 S2 y w t2 x2 g2 re2 r2 h2 => ?_
  exact hf _ _ _ _ _ _ _ _ g2 r2 h2
theorem sim_fn1 {n : Nat} {f : Fn} {pf : PF} {ms : MA} {pms : PA} (hf : SimF f pf) (hs : SimA ms pms) : SimE (eFn1 n f ms) (fun π t P E => pms π t (fun xs t1 => xs.length = n ∧ pf xs t1 P E) E) := by
  intro p0 F S b ρ π t P E re g h
  refine Sim.bind hs re g h fun F2 S2 y w t2 x2 g2 re2 r2 h2 => ?_
  rw [if_pos (by rw [r2.len]; exact h2.1)]
  exact hf _ _ _ _ _ _ _ _ g2 r2 h2.2
def pFn1 (n : Nat) (f : PF) (ms : PA) : PE := fun π t P E => ms π t (fun xs t1 => xs.length = n ∧ f xs t1 P E) E
theorem Reps.pick {vs : List PV} {ds : List D} (r : Reps p0 F S vs ds) : ∀ is : List Nat, Reps p0 F S (pickL vs is) (pickL ds is)
  | [] => Reps.nil
  | i :: is => by
    unfold pickL
    cases h : vs[i]? with
    | none =>
      have : ds[i]? = none := by rw [List.getElem?_eq_none_iff] at h ⊢; rw [r.len]; exact h
      rw [this]
      exact Reps.pick r is
    | some v =>
      obtain ⟨d, e, q⟩ := r.get h
      rw [e]
      exact Reps.cons q (Reps.pick r is)
def pFnK (n m np : Nat) (is : List Nat) (dd : List PV) (f : PF) (ms mk : PA) : PE := fun π t P E => ms π t (fun xs t1 => mk π t1 (fun ys t2 =>
  (xs.length = n ∧ ys.length = m ∧ (pickL (xs ++ ys ++ dd) is).length = np) ∧ f (pickL (xs ++ ys ++ dd) is) t2 P E) E) E
theorem sim_fnK {n m np : Nat} {is : List Nat} {dd : List PV} {f : Fn} {pf : PF} {ms mk : MA} {pms pmk : PA} (hd : cOks dd = true) (hf : SimF f pf) (hs : SimA ms pms) (hk : SimA mk pmk) : SimE (eFnK n m np is (cDs dd) f ms mk) (pFnK n m np is dd pf pms pmk) := by
  intro p0 F S b ρ π t P E re g h
  refine Sim.bind hs re g h fun F1 S1 x v t1 x1 g1 re1 r1 h1 => ?_
  refine Sim.bind hk re1 g1 h1 fun F2 S2 y w t2 x2 g2 re2 r2 h2 => ?_
  have r := ((r1.mono (x2.keep g1)).append r2).append (reps_c dd hd)
  have rp := Reps.pick r is
  rw [if_pos ⟨by rw [r1.len]; exact h2.1.1, by rw [r2.len]; exact h2.1.2.1, by rw [rp.len]; exact h2.1.2.2⟩]
  exact hf _ _ _ _ _ _ _ _ g2 rp h2.2
theorem Reps.un {v : PV} {vs : List PV} {ds : List D} (r : Reps p0 F S (v :: vs) ds) : ∃ d q, ds = d :: q ∧ Rep p0 F S v d ∧ Reps p0 F S vs q := by rw [Reps] at r; exact r
theorem Reps.one {v : PV} {ds : List D} (r : Reps p0 F S [v] ds) : ∃ d, ds = [d] ∧ Rep p0 F S v d := by
  obtain ⟨d, r', rfl, h1, h2⟩ := r.un
  unfold Reps at h2; subst h2
  exact ⟨d, rfl, h1⟩
theorem Reps.two {v w : PV} {ds : List D} (r : Reps p0 F S [v, w] ds) : ∃ d e, ds = [d, e] ∧ Rep p0 F S v d ∧ Rep p0 F S w e := by
  obtain ⟨d, r', rfl, h1, h2⟩ := r.un
  obtain ⟨e, rfl, h3⟩ := h2.one
  exact ⟨d, e, rfl, h1, h3⟩
def pLen : PF := fun vs t P _ => match vs with
  | [.tup xs] => P (.int xs.length) t
  | [.lst xs] => P (.int xs.length) t
  | [.str z] => z.length ≤ sizeLine ∧ P (.int z.length) t
  | _ => False
theorem sf_len : SimF fLen pLen := by
  intro p0 F S ds vs t P E g r0 h
  unfold pLen at h
  split at h
  · obtain ⟨d, rfl, r⟩ := r0.one
    obtain ⟨es, rfl, k⟩ := r.tupL
    unfold fLen; simp only; rw [k.len]
    exact Po.here g (by unfold Rep; rfl) h
  · obtain ⟨d, rfl, r⟩ := r0.one
    obtain ⟨n, es, rfl, f, c, k⟩ := r.lstL
    unfold fLen; simp only [c]; rw [k.len]
    exact Po.here g (by unfold Rep; rfl) h
  · obtain ⟨d, rfl, r⟩ := r0.one
    unfold Rep at r; subst r
    unfold fLen; simp only; rw [if_pos h.1]
    exact Po.here g (by unfold Rep; rfl) h.2
  · exact h.elim
def pInt : PF := fun vs t P _ => match vs with
  | [.int i] => P (.int i) t
  | [.bl b] => P (.int (if b then 1 else 0)) t
  | _ => False
theorem sf_int : SimF fInt pInt := by
  intro p0 F S ds vs t P E g r0 h
  unfold pInt at h
  split at h
  · obtain ⟨d, rfl, r⟩ := r0.one
    unfold Rep at r; subst r
    exact Po.here g (by unfold Rep; rfl) h
  · obtain ⟨d, rfl, r⟩ := r0.one
    unfold Rep at r; subst r
    exact Po.here g (by unfold Rep; rfl) h
  · exact h.elim
def pBool : PF := fun vs t P _ => match vs with
  | [.int i] => P (.bl (i != 0)) t
  | [.bl b] => P (.bl b) t
  | _ => False
theorem sf_bool : SimF fBool pBool := by
  intro p0 F S ds vs t P E g r0 h
  unfold pBool at h
  split at h
  · obtain ⟨d, rfl, r⟩ := r0.one
    unfold Rep at r; subst r
    exact Po.here g (by unfold Rep; rfl) h
  · obtain ⟨d, rfl, r⟩ := r0.one
    unfold Rep at r; subst r
    exact Po.here g (by unfold Rep; rfl) h
  · exact h.elim
def pAbs : PF := fun vs t P _ => match vs with
  | [.int i] => P (.int (if i < 0 then -i else i)) t
  | _ => False
theorem sf_abs : SimF fAbs pAbs := by
  intro p0 F S ds vs t P E g r0 h
  unfold pAbs at h
  split at h
  · obtain ⟨d, rfl, r⟩ := r0.one
    unfold Rep at r; subst r
    exact Po.here g (by unfold Rep; rfl) h
  · exact h.elim
def pMin : PF := fun vs t P _ => match vs with
  | [.int i, .int j] => P (.int (if j < i then j else i)) t
  | _ => False
theorem sf_min : SimF fMin pMin := by
  intro p0 F S ds vs t P E g r0 h
  unfold pMin at h
  split at h
  · obtain ⟨d, e, rfl, r1, r2⟩ := r0.two
    unfold Rep at r1 r2; subst r1 r2
    exact Po.here g (by unfold Rep; rfl) h
  · exact h.elim
def pMax : PF := fun vs t P _ => match vs with
  | [.int i, .int j] => P (.int (if j > i then j else i)) t
  | _ => False
theorem sf_max : SimF fMax pMax := by
  intro p0 F S ds vs t P E g r0 h
  unfold pMax at h
  split at h
  · obtain ⟨d, e, rfl, r1, r2⟩ := r0.two
    unfold Rep at r1 r2; subst r1 r2
    exact Po.here g (by unfold Rep; rfl) h
  · exact h.elim
def pTuple : PF := fun vs t P _ => match vs with
  | [.tup xs] => P (.tup xs) t
  | [.lst xs] => P (.tup xs) t
  | _ => False
theorem sf_tuple : SimF fTuple pTuple := by
  intro p0 F S ds vs t P E g r0 h
  unfold pTuple at h
  split at h
  · obtain ⟨d, rfl, r⟩ := r0.one
    obtain ⟨es, rfl, k⟩ := r.tupL
    exact Po.here g (Rep.tupI k) h
  · obtain ⟨d, rfl, r⟩ := r0.one
    obtain ⟨n, es, rfl, f, c, k⟩ := r.lstL
    unfold fTuple; simp only [c]
    exact Po.here g (Rep.tupI k) h
  · exact h.elim
def pList : PF := fun vs t P _ => match vs with
  | [.tup xs] => P (.lst xs) t
  | [.lst xs] => P (.lst xs) t
  | _ => False
theorem sf_list : SimF fList pList := by
  intro p0 F S ds vs t P E g r0 h
  unfold pList at h
  split at h
  · obtain ⟨d, rfl, r⟩ := r0.one
    obtain ⟨es, rfl, k⟩ := r.tupL
    exact Po.lst g k h
  · obtain ⟨d, rfl, r⟩ := r0.one
    obtain ⟨n, es, rfl, f, c, k⟩ := r.lstL
    unfold fList; simp only [c]
    exact Po.lst g k h
  · exact h.elim
def boolsP : List PV → Option (List Bool)
  | [] => some []
  | .bl b :: r => match boolsP r with
    | some bs => some (b :: bs)
    | none => none
  | _ => none
theorem bools_rep : ∀ {vs : List PV} {ds : List D} {bs : List Bool}, Reps p0 F S vs ds → boolsP vs = some bs → boolsOf ds = some bs
  | [], _, _, h, e => by unfold Reps at h; subst h; unfold boolsP at e; cases e; rfl
  | v :: vs, _, ns, h, e => by
    unfold Reps at h
    obtain ⟨d, r, rfl, h1, h2⟩ := h
    unfold boolsP at e
    split at e
    · rename_i e0; cases e0
    · rename_i i q e0
      cases e0
      unfold Rep at h1; subst h1
      cases hq : boolsP vs with
      | none => rw [hq] at e; cases e
      | some ms =>
        rw [hq] at e; cases e
        unfold boolsOf
        rw [bools_rep h2 hq]
    · cases e
def pBools (f : List Bool → Bool) : PF := fun vs t P _ => match vs with
  | [.lst xs] => ∃ bs, boolsP xs = some bs ∧ P (.bl (f bs)) t
  | _ => False
theorem sf_bools (f : List Bool → Bool) : SimF (fBools f) (pBools f) := by
  intro p0 F S ds vs t P E g r0 h
  unfold pBools at h
  split at h
  · obtain ⟨d, rfl, r⟩ := r0.one
    obtain ⟨n, es, rfl, fn, c, k⟩ := r.lstL
    obtain ⟨bs, e, h⟩ := h
    unfold fBools; simp only [c, bools_rep k e]
    exact Po.here g (by unfold Rep; rfl) h
  · exact h.elim
abbrev pAll : PF := pBools fun bs => bs.all id
abbrev pAny : PF := pBools fun bs => bs.any id
theorem sf_all : SimF fAll pAll := sf_bools _
theorem sf_any : SimF fAny pAny := sf_bools _
def pRepr : PF := fun vs t P _ => match vs with
  | [v] => ∃ p, shP v = some p ∧ (p.showable = true ∧ p.shown.length ≤ sizeLine ∧ p.depth ≤ 60) ∧ P (.str p.shown) t
  | _ => False
theorem sf_repr : SimF fRepr pRepr := by
  intro p0 F S ds vs t P E g r0 h
  unfold pRepr at h
  split at h
  · obtain ⟨d, rfl, r⟩ := r0.one
    obtain ⟨p, e, hp, h⟩ := h
    unfold fRepr; simp only [sh_rep _ _ _ _ r e]
    rw [if_pos hp]
    exact Po.here g (by unfold Rep; rfl) h
  · exact h.elim
def leP : PV → PV → Bool := PySem.W.sortLe (listOrd itemOrd) false fun v => PySem.W.keyToks ((shP v).getD .none)
def pSorted : PF := fun vs t P _ => match vs with
  | [.lst xs] => ∃ ps, mapO shP xs = some ps ∧ okSort ps = true ∧ P (.lst (xs.mergeSort leP)) t
  | [.tup xs] => ∃ ps, mapO shP xs = some ps ∧ okSort ps = true ∧ P (.lst (xs.mergeSort leP)) t
  | _ => False
theorem mapO_all {α β : Type} {f : α → Option β} : ∀ {xs : List α} {ys : List β}, mapO f xs = some ys → ∀ x ∈ xs, ∃ y, f x = some y
  | [], _, _, x, hx => by cases hx
  | a :: xs, ys, e, x, hx => by
    unfold mapO at e
    cases ha : f a with
    | none => rw [ha] at e; cases e
    | some y =>
      cases hs : mapO f xs with
      | none => rw [ha, hs] at e; cases e
      | some zs =>
        rcases List.mem_cons.mp hx with rfl | hx
        · exact ⟨y, ha⟩
        · exact mapO_all hs x hx
theorem Reps.sort {vs : List PV} {ds : List D} {ps : List PyData} (r : Reps p0 F S vs ds) (e : mapO shP vs = some ps) : Reps p0 F S (vs.mergeSort leP) (ds.mergeSort (leD S)) := by
  have hz := r.zip
  have e1 : (vs.zip ds).map Prod.fst = vs := List.map_fst_zip (by rw [r.len]; exact Nat.le_refl _)
  have e2 : (vs.zip ds).map Prod.snd = ds := List.map_snd_zip (by rw [r.len]; exact Nat.le_refl _)
  have hs : ∀ q ∈ vs.zip ds, shownD S q.2 = (shP q.1).getD .none := fun q hq => by
    have hm : q.1 ∈ vs := by rw [← e1]; exact List.mem_map_of_mem hq
    obtain ⟨y, hy⟩ := mapO_all e _ hm
    unfold shownD
    rw [sh_rep _ _ _ _ (hz q hq) hy, hy]
  have m1 : ((vs.zip ds).mergeSort fun a b => leP a.1 b.1).map Prod.fst = vs.mergeSort leP := by
    conv => rhs; rw [← e1]
    exact List.map_mergeSort fun a _ b _ => rfl
  have m2 : ((vs.zip ds).mergeSort fun a b => leP a.1 b.1).map Prod.snd = ds.mergeSort (leD S) := by
    conv => rhs; rw [← e2]
    refine List.map_mergeSort fun a ha b hb => ?_
    unfold leP leD PySem.W.sortLe
    simp only [hs a ha, hs b hb]
  rw [← m1, ← m2]
  refine Reps.ofAll fun q hq => hz q ?_
  exact List.mem_mergeSort.mp hq
theorem mapO_deep {vs : List PV} {ds : List D} {ps : List PyData} (r : Reps p0 F S vs ds) (e : mapO shP vs = some ps) : mapO (deep S deepLine) ds = some ps := mapO_rep (sh_rep deepLine) r e
theorem sf_sorted : SimF fSorted pSorted := by
  intro p0 F S ds vs t P E g r0 h
  unfold pSorted at h
  split at h
  · obtain ⟨d, rfl, r⟩ := r0.one
    obtain ⟨n, es, rfl, fn, c, k⟩ := r.lstL
    obtain ⟨ps, e, ho, h⟩ := h
    unfold fSorted; simp only [c]
    unfold sortD; simp only [mapO_deep k e]
    rw [if_pos ho]
    exact Po.lst g (k.sort e) h
  · obtain ⟨d, rfl, r⟩ := r0.one
    obtain ⟨es, rfl, k⟩ := r.tupL
    obtain ⟨ps, e, ho, h⟩ := h
    unfold fSorted; simp only
    unfold sortD; simp only [mapO_deep k e]
    rw [if_pos ho]
    exact Po.lst g (k.sort e) h
  · exact h.elim
def rangeP (lo : Int) (n : Nat) : List PV := (List.range n).map fun i => .int (lo + (i : Nat))
theorem reps_range (lo : Int) (n : Nat) : Reps p0 F S (rangeP lo n) (rangeD lo n) := by
  have : ∀ l : List Nat, Reps p0 F S (l.map fun i => PV.int (lo + (i : Nat))) (l.map fun i => D.int (lo + (i : Nat))) := by
    intro l
    induction l with
    | nil => exact Reps.nil
    | cons x l ih => exact Reps.cons (by unfold Rep; rfl) ih
  exact this _
def SimRg (f : Int → Int → Store → Res D) (pf : Int → Int → W PV) : Prop := ∀ p0 F S a b t P E, Good p0 F S t → pf a b t P E → RO (f a b S) (Po Rep p0 F S P) (XO p0 F S E)
def pLstRg (a b : Int) : W PV := fun t P _ => RgOk a b ∧ P (.lst (rangeP a (b - a).toNat)) t
def pTupRg (a b : Int) : W PV := fun t P _ => RgOk a b ∧ P (.tup (rangeP a (b - a).toNat)) t
theorem srg_lst : SimRg fLstRg pLstRg := by
  intro p0 F S a b t P E g h
  unfold fLstRg; rw [if_pos h.1]
  exact Po.lst g (reps_range _ _) h.2
theorem srg_tup : SimRg fTupRg pTupRg := by
  intro p0 F S a b t P E g h
  unfold fTupRg; rw [if_pos h.1]
  exact Po.here g (Rep.tupI (reps_range _ _)) h.2
def pRg1 (f : Int → Int → W PV) (m : PE) : PE := fun π t P E => m π t (fun x t1 => match x with
  | .int n => f 0 n t1 P E
  | _ => False) E
def pRg2 (f : Int → Int → W PV) (m n : PE) : PE := fun π t P E => m π t (fun x t1 => n π t1 (fun y t2 => match x, y with
  | .int a, .int b => f a b t2 P E
  | _, _ => False) E) E
theorem sim_rg1 {f : Int → Int → Store → Res D} {pf : Int → Int → W PV} {m : ME} {pm : PE} (hf : SimRg f pf) (hm : SimE m pm) : SimE (eRg1 f m) (pRg1 pf pm) := by
  intro p0 F S b ρ π t P E re g h
  refine Sim.bind hm re g h fun F1 S1 x v t1 x1 g1 re1 r1 h1 => ?_
  cases v <;> try exact h1.elim
  unfold Rep at r1; subst r1
  exact hf _ _ _ _ _ _ _ _ g1 h1
theorem sim_rg2 {f : Int → Int → Store → Res D} {pf : Int → Int → W PV} {m n : ME} {pm pn : PE} (hf : SimRg f pf) (hm : SimE m pm) (hn : SimE n pn) : SimE (eRg2 f m n) (pRg2 pf pm pn) := by
  intro p0 F S b ρ π t P E re g h
  refine Sim.bind hm re g h fun F1 S1 x v t1 x1 g1 re1 r1 h1 => ?_
  refine Sim.bind hn re1 g1 h1 fun F2 S2 y w t2 x2 g2 re2 r2 h2 => ?_
  cases v <;> try exact h2.elim
  cases w <;> try exact h2.elim
  unfold Rep at r1 r2; subst r1 r2
  exact hf _ _ _ _ _ _ _ _ g2 h2
def flatP : PV → Bool
  | .non | .bl _ | .int _ | .str _ => true
  | _ => false
def toVP : PV → V
  | .non => .non
  | .bl b => .bl b
  | .int i => .int i
  | .str s => .str s
  | _ => .non
theorem flat_rep {v : PV} {d : D} (r : Rep p0 F S v d) (h : flatP v = true) : flatB d = true ∧ toV d = toVP v := by
  cases v <;> first | (cases h; done) | (unfold Rep at r; subst r; exact ⟨rfl, rfl⟩)
theorem flats_rep : ∀ {vs : List PV} {ds : List D}, Reps p0 F S vs ds → vs.all flatP = true → ds.all flatB = true ∧ ds.map toV = vs.map toVP
  | [], _, r, _ => by unfold Reps at r; subst r; exact ⟨rfl, rfl⟩
  | v :: vs, _, r, h => by
    unfold Reps at r
    obtain ⟨d, q, rfl, h1, h2⟩ := r
    rw [List.all_cons, Bool.and_eq_true] at h
    obtain ⟨k1, k2⟩ := flat_rep h1 h.1
    obtain ⟨k3, k4⟩ := flats_rep h2 h.2
    exact ⟨by rw [List.all_cons, k1, k3]; rfl, by rw [List.map_cons, List.map_cons, k2, k4]⟩
def itemsP : PV → Option (List PV)
  | .tup xs => some xs
  | .lst xs => some xs
  | _ => none
def inP (x y : PV) (K : Bool → Prop) : Prop := ∃ ys, itemsP y = some ys ∧ ((flatP x = true ∧ ys.all flatP = true ∧ K (inV (toVP x) (ys.map toVP))) ∨
  (∃ us zs d ds, x = .tup us ∧ y = .lst zs ∧ shP x = some d ∧ shP y = some (.list ds) ∧ SeqAt.shaped d = true ∧ SeqAt.shaped (.list ds) = true ∧ K (ds.any fun z => PyData.eqv z d)))
def pIn : PV → PV → W PV := fun x y t P _ => inP x y fun b => P (.bl b) t
def pNotIn : PV → PV → W PV := fun x y t P _ => inP x y fun b => P (.bl (!b)) t
theorem in_rep {v w : PV} {x y : D} {K : Bool → Prop} (r1 : Rep p0 F S v x) (r2 : Rep p0 F S w y) (h : inP v w K) : ∃ b, inD x y S = some b ∧ K b := by
  obtain ⟨ys, e, h⟩ := h
  have : ∃ ds, itemsD S y = some ds ∧ Reps p0 F S ys ds := by
    cases w <;> try (cases e; done)
    · cases e; obtain ⟨ds, rfl, k⟩ := r2.tupL; exact ⟨ds, rfl, k⟩
    · cases e; obtain ⟨n, ds, rfl, f, c, k⟩ := r2.lstL; exact ⟨ds, by unfold itemsD; simp only; rw [c], k⟩
  obtain ⟨ds, e2, k⟩ := this
  rcases h with ⟨h1, h2, h⟩ | ⟨us, zs, d, es, rfl, rfl, s1, s2, s3, s4, h⟩
  · obtain ⟨k1, k2⟩ := flat_rep r1 h1
    obtain ⟨k3, k4⟩ := flats_rep k h2
    refine ⟨_, ?_, h⟩
    unfold inD
    rw [e2]
    simp only
    rw [if_pos ⟨k1, k3⟩, k2, k4]
  · have q1 := sh_rep _ _ _ _ r1 s1
    have q2 := sh_rep _ _ _ _ r2 s2
    obtain ⟨xs, rfl, _⟩ := r1.tupL
    obtain ⟨n, ms, rfl, _, _, _⟩ := r2.lstL
    refine ⟨_, ?_, h⟩
    unfold inD
    rw [e2]
    simp only [q1, q2]
    rw [if_neg (fun z => by cases z.1), if_pos ⟨s3, s4⟩]
theorem sop_in : SimOp oIn pIn := by
  intro p0 F S x y v w t P E g r1 r2 h
  obtain ⟨b, e, h⟩ := in_rep r1 r2 h
  unfold oIn; rw [e]
  exact Po.here g (by unfold Rep; rfl) h
theorem sop_notIn : SimOp oNotIn pNotIn := by
  intro p0 F S x y v w t P E g r1 r2 h
  obtain ⟨b, e, h⟩ := in_rep r1 r2 h
  unfold oNotIn; rw [e]
  exact Po.here g (by unfold Rep; rfl) h
end
end RP

namespace RP
open PySem PySem.Spec PyProof.Rows L2 RL

section
variable {p0 : Nat} {F F' : Pl} {S S' : Store} {t : Int} {α β γ δ : Type}
/-! ### what is walked -/
def RepI : Rl (List PV) ItD := fun p0 F S vs it => Reps p0 F S vs it.items ∧ ∀ F' S', Keep F S F' S' → it.chk S'
abbrev SimI : MI → PI → Prop := Sim RepI
def piAny (m : PE) : PI := fun π t P E => m π t (fun v t1 => match v with
  | .tup xs => P xs t1
  | .lst xs => P xs t1
  | _ => False) E
theorem sim_iAny {m : ME} {pm : PE} (hm : SimE m pm) : SimI (iAnyM m) (piAny pm) := by
  intro p0 F S b ρ π t P E re g h
  refine Sim.bind hm re g h fun F1 S1 x v t1 x1 g1 re1 r1 h1 => ?_
  cases v <;> try exact h1.elim
  · obtain ⟨ds, rfl, k⟩ := r1.tupL
    exact Po.here g1 ⟨k, fun _ _ _ => trivial⟩ h1
  · obtain ⟨n, ds, rfl, f, c, k⟩ := r1.lstL
    simp only [c]
    exact Po.here g1 ⟨k, fun F' S' kp => by show S'[n]? = some (.lst ds); rw [(kp n f).2]; exact c⟩ h1
def piRng1 (ms : PA) : PI := fun π t P E => ms π t (fun xs t1 => match xs with
  | [.int j] => (-(2 ^ 62) ≤ j ∧ j < 2 ^ 62) ∧ P (rangeP 0 j.toNat) t1
  | _ => False) E
theorem sim_iRng1 {ms : MA} {pms : PA} (hs : SimA ms pms) : SimI (iRngM1 ms) (piRng1 pms) := by
  intro p0 F S b ρ π t P E re g h
  refine Sim.bind hs re g h fun F1 S1 x v t1 x1 g1 re1 r1 h1 => ?_
  split at h1
  · obtain ⟨d, rfl, r2⟩ := r1.one
    unfold Rep at r2; subst r2
    simp only
    rw [if_pos h1.1]
    exact Po.here g1 ⟨reps_range _ _, fun _ _ _ => trivial⟩ h1.2
  · exact h1.elim
def piRng2 (ms : PA) : PI := fun π t P E => ms π t (fun xs t1 => match xs with
  | [.int i, .int j] => ((-(2 ^ 62) ≤ i ∧ i < 2 ^ 62) ∧ (-(2 ^ 62) ≤ j ∧ j < 2 ^ 62)) ∧ P (rangeP i (j - i).toNat) t1
  | _ => False) E
theorem sim_iRng2 {ms : MA} {pms : PA} (hs : SimA ms pms) : SimI (iRngM2 ms) (piRng2 pms) := by
  intro p0 F S b ρ π t P E re g h
  refine Sim.bind hs re g h fun F1 S1 x v t1 x1 g1 re1 r1 h1 => ?_
  split at h1
  · obtain ⟨d, e, rfl, r2, r3⟩ := r1.two
    unfold Rep at r2 r3; subst r2 r3
    simp only
    rw [if_pos h1.1]
    exact Po.here g1 ⟨reps_range _ _, fun _ _ _ => trivial⟩ h1.2
  · exact h1.elim
def enumP : Nat → List PV → List PV
  | _, [] => []
  | k, d :: r => .tup [.int (k : Nat), d] :: enumP (k + 1) r
theorem Reps.enum : ∀ {vs : List PV} {ds : List D} (k : Nat), Reps p0 F S vs ds → Reps p0 F S (enumP k vs) (enumD k ds)
  | [], _, _, r => by unfold Reps at r; subst r; exact Reps.nil
  | v :: vs, _, k, r => by
    obtain ⟨d, q, rfl, h1, h2⟩ := r.un
    exact Reps.cons (Rep.tupI (Reps.cons (by unfold Rep; rfl) (Reps.cons h1 Reps.nil))) (Reps.enum (k + 1) h2)
def piEnum (ms : PA) : PI := fun π t P E => ms π t (fun xs t1 => match xs with
  | [.tup vs] => P (enumP 0 vs) t1
  | [.lst vs] => P (enumP 0 vs) t1
  | _ => False) E
theorem sim_iEnum {ms : MA} {pms : PA} (hs : SimA ms pms) : SimI (iEnumM ms) (piEnum pms) := by
  intro p0 F S b ρ π t P E re g h
  refine Sim.bind hs re g h fun F1 S1 x v t1 x1 g1 re1 r1 h1 => ?_
  split at h1
  · obtain ⟨d, rfl, r2⟩ := r1.one
    obtain ⟨ds, rfl, k⟩ := r2.tupL
    exact Po.here g1 ⟨k.enum 0, fun _ _ _ => trivial⟩ h1
  · obtain ⟨d, rfl, r2⟩ := r1.one
    obtain ⟨n, ds, rfl, f, c, k⟩ := r2.lstL
    simp only [c]
    exact Po.here g1 ⟨k.enum 0, fun F' S' kp => by show S'[n]? = some (.lst ds); rw [(kp n f).2]; exact c⟩ h1
  · exact h1.elim
/-! ### comprehensions -/
abbrev PBnd := PV → PEnv → Option PEnv
def SimB (bnd : Bnd) (pb : PBnd) : Prop := ∀ p0 F S b v d π ρ π1, Rep p0 F S v d → REnv p0 F S b π ρ → pb v π = some π1 → ∃ ρ1, bnd d ρ = some ρ1 ∧ REnv p0 F S b π1 ρ1
def pbNm (i : Nat) : PBnd := fun v π => some (π.set i (.val v))
def pbPr (i j : Nat) : PBnd := fun v π => match v with
  | .tup [a, b] => some ((π.set i (.val a)).set j (.val b))
  | _ => none
theorem sb_nm (i : Nat) : SimB (bNm i) (pbNm i) := by
  intro p0 F S b v d π ρ π1 r re e
  cases e
  exact ⟨_, rfl, re.set i r⟩
theorem sb_pr (i j : Nat) : SimB (bPr i j) (pbPr i j) := by
  intro p0 F S b v d π ρ π1 r re e
  unfold pbPr at e
  split at e
  · cases e
    obtain ⟨ds, rfl, k⟩ := r.tupL
    obtain ⟨x, y, rfl, r1, r2⟩ := k.two
    exact ⟨_, rfl, (re.set i r1).set j r2⟩
  · cases e
def noE : PX → Int → Prop := fun _ _ => False
def compW (bnd : PBnd) (c : PT) (e : PE) (π : PEnv) : List PV → List PV → W (List PV)
  | acc, [] => fun t P _ => P acc t
  | acc, x :: xs => fun t P E => ∃ π1, bnd x π = some π1 ∧ c π1 t (fun b t1 => if b = true then e π1 t1 (fun y t2 => acc.length < sizeLine ∧ compW bnd c e π (acc ++ [y]) xs t2 P E) noE else compW bnd c e π acc xs t1 P E) noE
def pComp (mi : PI) (bnd : PBnd) (vs : List Nat) (c : PT) (e : PE) : PE := fun π t P E => mi π t (fun items t1 => compW bnd c e (wipeP π vs) [] items t1 (fun acc t2 => P (.lst acc) t2) E) E
theorem RO.noExn {r : Res α} {P : α → Store → Prop} {E E' : Exn → Store → Prop} (h : RO r P E) (hE : ∀ x S, E x S → False) : RO (RL.noExn r) P E' := by
  cases r with
  | ok a S => exact h
  | exn x S => exact (hE x S h).elim
  | bad => exact h
theorem noE_off {x : Exn} {S1 : Store} : XO p0 F S noE x S1 → False := by
  rintro ⟨_, _, _, _, _, _, h⟩
  exact h
open Classical in
theorem sim_compT {chk : Store → Prop} {bnd : Bnd} {pb : PBnd} {c : MT} {pc : PT} {e : ME} {pe : PE} (hb : SimB bnd pb) (hc : SimT c pc) (he : SimE e pe)
    {p0 : Nat} {F1 : Pl} {S1 : Store} {t1 : Int} {b : Nat} {π : PEnv} {ρ : RL.Env} (g1 : Good p0 F1 S1 t1) (re1 : REnv p0 F1 S1 b π ρ) (ck : ∀ F' S', Keep F1 S1 F' S' → chk S') {P : List PV → Int → Prop} {E : PX → Int → Prop} {E' : Exn → Store → Prop} :
    ∀ (xs : List PV) (ds : List D) (vacc : List PV) (dacc : List D) (F : Pl) (S : Store) (t : Int), Reps p0 F1 S1 xs ds → Ex p0 F1 S1 F S → Good p0 F S t → S[S1.length]? = some (.lst dacc) → ¬ F S1.length → Reps p0 F S vacc dacc →
      compW pb pc pe π vacc xs t P E → RO (compT chk bnd c e S1.length ρ ds S) (fun _ S' => ∃ F' vs t' da, Ex p0 F1 S1 F' S' ∧ Good p0 F' S' t' ∧ ¬ F' S1.length ∧ S'[S1.length]? = some (.lst da) ∧ Reps p0 F' S' vs da ∧ P vs t') E'
  | [], ds, vacc, dacc, F, S, t, rx, x, g, hn, nf, ra, h => by
    unfold Reps at rx; subst rx
    unfold compT
    exact ⟨F, vacc, t, dacc, x, g, nf, hn, ra, h⟩
  | v :: xs, ds, vacc, dacc, F, S, t, rx, x, g, hn, nf, ra, h => by
    obtain ⟨d, ds', rfl, r1, r2⟩ := rx.un
    have hn0 : S1.length ≠ p0 := fun z => by have := g1.p0lt; omega
    have hl : S1.length < S.length := lt_of_get hn
    unfold compW at h
    obtain ⟨π1, eb, h⟩ := h
    obtain ⟨ρ1, eb2, re2⟩ := hb _ _ _ _ _ _ _ _ _ (r1.mono (x.keep g1)) (re1.ex x g1) eb
    unfold compT
    rw [eb2]
    simp only
    refine RO.bind ((RO.noExn (E' := E') (hc _ _ _ _ _ _ _ _ _ re2 g h) fun _ _ => noE_off).mono ?_ fun _ _ z => z)
    rintro q S2 ⟨F2, q', t2, x2, g2, rfl, h2⟩
    have xx2 := x.trans x2
    have hn2 : S2[S1.length]? = some (.lst dacc) := by rw [x2.same _ hl hn0]; exact hn
    have nf2 : ¬ F2 S1.length := fun z => nf (x2.old _ hl z)
    cases q with
    | false =>
      simp only [Bool.false_eq_true, if_false] at h2 ⊢
      rw [if_pos (ck F2 S2 (xx2.keep g1))]
      exact sim_compT hb hc he g1 re1 ck xs ds' vacc dacc F2 S2 t2 r2 xx2 g2 hn2 nf2 (ra.mono (x2.keep g)) h2
    | true =>
      simp only [if_true] at h2 ⊢
      refine RO.bind ((RO.noExn (E' := E') (he _ _ _ _ _ _ _ _ _ (re2.ex x2 g) g2 h2) fun _ _ => noE_off).mono ?_ fun _ _ z => z)
      rintro y S3 ⟨F3, w, t3, x3, g3, rw3, h3⟩
      have hl2 : S1.length < S2.length := lt_of_get hn2
      have hn3 : S3[S1.length]? = some (.lst dacc) := by rw [x3.same _ hl2 hn0]; exact hn2
      have nf3 : ¬ F3 S1.length := fun z => nf2 (x3.old _ hl2 z)
      have ra3 := ra.mono ((x2.trans x3).keep g)
      have kp : Keep F3 S3 F3 (S3.set S1.length (.lst (dacc ++ [y]))) := fun m hm => ⟨hm, List.getElem?_set_ne fun z => nf3 (by rw [z]; exact hm)⟩
      have xx3 : Ex p0 F1 S1 F3 (S3.set S1.length (.lst (dacc ++ [y]))) := by
        have q := xx2.trans x3
        exact ⟨by rw [List.length_set]; exact q.len, fun m hm hp => by rw [List.getElem?_set_ne (by omega)]; exact q.same m hm hp, q.up, q.old⟩
      have g4 : Good p0 F3 (S3.set S1.length (.lst (dacc ++ [y]))) t3 := by
        refine ⟨fun m hm => by rw [List.length_set]; exact g3.lt m hm, g3.np, ?_⟩
        obtain ⟨a, b', c', hd, rr⟩ := g3.dk
        exact ⟨a, b', c', by rw [List.getElem?_set_ne hn0]; exact hd, rr⟩
      rw [hn3]
      simp only
      rw [if_pos ⟨by rw [ra.len]; exact h3.1, ck F3 _ (xx3.keep g1)⟩]
      exact sim_compT hb hc he g1 re1 ck xs ds' (vacc ++ [w]) (dacc ++ [y]) F3 _ t3 r2 xx3 g4 (by rw [List.getElem?_set_self (lt_of_get hn3)]) nf3 ((ra3.append (Reps.cons rw3 Reps.nil)).mono kp) h3.2
open Classical in
theorem sim_comp {mi : MI} {pi : PI} {bnd : Bnd} {pb : PBnd} {vs : List Nat} {c : MT} {pc : PT} {e : ME} {pe : PE} (hi : SimI mi pi) (hb : SimB bnd pb) (hc : SimT c pc) (he : SimE e pe) : SimE (eComp mi bnd vs c e) (pComp pi pb vs pc pe) := by
  intro p0 F S b ρ π t P E re g h
  refine Sim.bind hi re g h fun F1 S1 it xs t1 x1 g1 re1 r1 h1 => ?_
  have k0 : Keep F1 S1 F1 (S1 ++ [.lst []]) := fun n hn => ⟨hn, List.getElem?_append_left (g1.lt n hn)⟩
  rw [if_pos (r1.2 F1 _ k0)]
  refine RO.bind ((sim_compT (chk := it.chk) (E' := XO p0 F1 S1 E) hb hc he g1 (re1.wipe vs) r1.2 xs it.items [] [] F1 (S1 ++ [.lst []]) t1 r1.1 (Ex.raw _) (g1.raw _) (get_last _ _) (fun z => by have := g1.lt _ z; omega) Reps.nil h1).mono ?_ fun _ _ z => z)
  rintro _ S2 ⟨F2, ws, t2, da, x2, g2, nf, hn, ra, hP⟩
  have kp : Keep F2 S2 (fun n => F2 n ∨ n = S1.length) S2 := fun n hn => ⟨.inl hn, rfl⟩
  refine ⟨fun n => F2 n ∨ n = S1.length, .lst ws, t2, ?_, ?_, ?_, hP⟩
  · exact ⟨x2.len, x2.same, fun n hn => .inl (x2.up n hn), fun n hn q => q.elim (x2.old n hn) fun z => by omega⟩
  · refine ⟨fun n q => q.elim (g2.lt n) fun z => by rw [z]; exact lt_of_get hn, ?_, g2.dk⟩
    rintro (q | q)
    · exact g2.np q
    · have := g1.p0lt; omega
  · unfold Rep
    exact ⟨_, da, rfl, .inr rfl, hn, ra.mono kp⟩
theorem sim_yes : SimT tYesM (fun _ t P _ => P true t) := by
  intro p0 F S b ρ π t P E re g h
  exact Po.here g rfl h
abbrev pYes : PT := fun _ t P _ => P true t
end
end RP

namespace RP
open PySem PySem.Spec PyProof.Rows L2 RL

/-! ### statements -/
structure PPs where
  nx : PEnv → Int → Prop
  rt : PV → Int → Prop
  ct : PEnv → Int → Prop
  bk : PEnv → Int → Prop
  ex : PX → PEnv → Int → Prop
abbrev PSt := PEnv → Int → PPs → Prop
section
variable {p0 : Nat} {F F' F0 : Pl} {S S' S0 : Store} {t t0 : Int} {α β γ δ : Type}
def NX (p0 : Nat) (F0 : Pl) (S0 : Store) (F : Pl) (S : Store) (K : PEnv → Int → Prop) (ρ' : RL.Env) (S' : Store) : Prop := ∃ F' π' t', Ex p0 F0 S0 F' S' ∧ Keep F S F' S' ∧ Good p0 F' S' t' ∧ REnv p0 F' S' S0.length π' ρ' ∧ K π' t'
def XS (p0 : Nat) (F0 : Pl) (S0 : Store) (F : Pl) (S : Store) (K : PX → PEnv → Int → Prop) (x : Exn) (ρ' : RL.Env) (S' : Store) : Prop := ∃ F' y π' t', Ex p0 F0 S0 F' S' ∧ Keep F S F' S' ∧ Good p0 F' S' t' ∧ RepX p0 F' S' y x ∧ REnv p0 F' S' S0.length π' ρ' ∧ K y π' t'
def ROS (p0 : Nat) (F0 : Pl) (S0 : Store) (F : Pl) (S : Store) (r : SRes) (Q : PPs) : Prop := match r with
  | .next ρ S' => NX p0 F0 S0 F S Q.nx ρ S'
  | .ret d S' => Po Rep p0 F0 S0 Q.rt d S'
  | .cont ρ S' => NX p0 F0 S0 F S Q.ct ρ S'
  | .brk ρ S' => NX p0 F0 S0 F S Q.bk ρ S'
  | .exn x ρ S' => XS p0 F0 S0 F S Q.ex x ρ S'
  | .bad => False
theorem ROS.lift {F1 : Pl} {S1 : Store} {r : SRes} {Q : PPs} (k : Keep F S F1 S1) (h : ROS p0 F0 S0 F1 S1 r Q) : ROS p0 F0 S0 F S r Q := by
  cases r with
  | next ρ S' => obtain ⟨F', π', t', x, kk, z⟩ := h; exact ⟨F', π', t', x, k.trans kk, z⟩
  | cont ρ S' => obtain ⟨F', π', t', x, kk, z⟩ := h; exact ⟨F', π', t', x, k.trans kk, z⟩
  | brk ρ S' => obtain ⟨F', π', t', x, kk, z⟩ := h; exact ⟨F', π', t', x, k.trans kk, z⟩
  | exn y ρ S' => obtain ⟨F', c, π', t', x, kk, z⟩ := h; exact ⟨F', c, π', t', x, k.trans kk, z⟩
  | ret d S' => exact h
  | bad => exact h
def SimS (m : MS) (pm : PSt) : Prop := ∀ p0 F0 S0 t0 F S ρ π t Q, Good p0 F0 S0 t0 → Ex p0 F0 S0 F S → Good p0 F S t → REnv p0 F S S0.length π ρ → pm π t Q → ROS p0 F0 S0 F S (m ρ S) Q
theorem SimS.e {R : Rl β α} {m : RL.Env → Store → Res α} {pm : PEnv → W β} {ρ : RL.Env} {π : PEnv} {K : β → Int → Prop} {Q : PPs} {f : α → Store → SRes} (hm : Sim R m pm) (g0 : Good p0 F0 S0 t0) (x : Ex p0 F0 S0 F S) (g : Good p0 F S t) (re : REnv p0 F S S0.length π ρ)
    (h : pm π t K fun y t1 => Q.ex y π t1)
    (go : ∀ F1 S1 a c t1, Ex p0 F0 S0 F1 S1 → Good p0 F1 S1 t1 → REnv p0 F1 S1 S0.length π ρ → R p0 F1 S1 c a → K c t1 → ROS p0 F0 S0 F1 S1 (f a S1) Q) : ROS p0 F0 S0 F S (ofE (m ρ S) ρ f) Q := by
  have z := hm p0 F S S0.length ρ π t K _ re g h
  cases hr : m ρ S with
  | ok a S1 =>
    rw [hr] at z
    obtain ⟨F1, c, t1, x1, g1, r1, k1⟩ := z
    exact (go F1 S1 a c t1 (x.trans x1) g1 (re.ex x1 g) r1 k1).lift (x1.keep g)
  | exn y S1 =>
    rw [hr] at z
    obtain ⟨F1, c, t1, x1, g1, r1, k1⟩ := z
    exact ⟨F1, c, π, t1, x.trans x1, x1.keep g, g1, r1, re.ex x1 g, k1⟩
  | bad => rw [hr] at z; exact z
def psDrop (m : PE) : PSt := fun π t Q => m π t (fun _ t1 => Q.nx π t1) fun y t1 => Q.ex y π t1
theorem ss_drop {m : ME} {pm : PE} (hm : SimE m pm) : SimS (sDrop m) (psDrop pm) := by
  intro p0 F0 S0 t0 F S ρ π t Q g0 x g re h
  exact SimS.e hm g0 x g re h fun F1 S1 a c t1 xx g1 re1 r1 k1 => ⟨F1, π, t1, xx, Keep.refl, g1, re1, k1⟩
def psRet (m : PE) : PSt := fun π t Q => m π t Q.rt fun y t1 => Q.ex y π t1
theorem ss_ret {m : ME} {pm : PE} (hm : SimE m pm) : SimS (sRet m) (psRet pm) := by
  intro p0 F0 S0 t0 F S ρ π t Q g0 x g re h
  exact SimS.e hm g0 x g re h fun F1 S1 a c t1 xx g1 re1 r1 k1 => ⟨F1, c, t1, xx, g1, r1, k1⟩
def psRetN : PSt := fun _ t Q => Q.rt .non t
theorem ss_retN : SimS sRetN psRetN := by
  intro p0 F0 S0 t0 F S ρ π t Q g0 x g re h
  exact ⟨F, .non, t, x, g, by unfold Rep; rfl, h⟩
def psPass : PSt := fun π t Q => Q.nx π t
def psBrk : PSt := fun π t Q => Q.bk π t
def psCont : PSt := fun π t Q => Q.ct π t
theorem ss_pass : SimS sPass psPass := fun p0 F0 S0 t0 F S ρ π t Q g0 x g re h => ⟨F, π, t, x, Keep.refl, g, re, h⟩
theorem ss_brk : SimS sBrk psBrk := fun p0 F0 S0 t0 F S ρ π t Q g0 x g re h => ⟨F, π, t, x, Keep.refl, g, re, h⟩
theorem ss_cont : SimS sCont psCont := fun p0 F0 S0 t0 F S ρ π t Q g0 x g re h => ⟨F, π, t, x, Keep.refl, g, re, h⟩
def psIf (c : PT) (m n : PSt) : PSt := fun π t Q => c π t (fun b t1 => if b = true then m π t1 Q else n π t1 Q) fun y t1 => Q.ex y π t1
theorem ss_if {c : MT} {pc : PT} {m n : MS} {pm pn : PSt} (hc : SimT c pc) (hm : SimS m pm) (hn : SimS n pn) : SimS (sIf c m n) (psIf pc pm pn) := by
  intro p0 F0 S0 t0 F S ρ π t Q g0 x g re h
  refine SimS.e hc g0 x g re h fun F1 S1 a c t1 xx g1 re1 r1 k1 => ?_
  cases r1
  cases a
  · exact hn _ _ _ _ _ _ _ _ _ _ g0 xx g1 re1 k1
  · exact hm _ _ _ _ _ _ _ _ _ _ g0 xx g1 re1 k1
def psSeq (m n : PSt) : PSt := fun π t Q => m π t { Q with nx := fun π1 t1 => n π1 t1 Q }
theorem ss_seq {m n : MS} {pm pn : PSt} (hm : SimS m pm) (hn : SimS n pn) : SimS (sSeq m n) (psSeq pm pn) := by
  intro p0 F0 S0 t0 F S ρ π t Q g0 x g re h
  have z := hm _ _ _ _ _ _ _ _ _ _ g0 x g re h
  unfold sSeq
  cases hr : m ρ S with
  | next ρ1 S1 =>
    rw [hr] at z
    obtain ⟨F1, π1, t1, x1, kp, g1, re1, k1⟩ := z
    exact (hn _ _ _ _ _ _ _ _ _ _ g0 x1 g1 re1 k1).lift kp
  | ret d S1 => rw [hr] at z; exact z
  | cont ρ1 S1 => rw [hr] at z; exact z
  | brk ρ1 S1 => rw [hr] at z; exact z
  | exn y ρ1 S1 => rw [hr] at z; exact z
  | bad => rw [hr] at z; exact z
def psSet (i : Nat) (m : PE) : PSt := fun π t Q => m π t (fun v t1 => Q.nx (π.set i (.val v)) t1) fun y t1 => Q.ex y π t1
theorem ss_set (i : Nat) {m : ME} {pm : PE} (hm : SimE m pm) : SimS (sSet i m) (psSet i pm) := by
  intro p0 F0 S0 t0 F S ρ π t Q g0 x g re h
  exact SimS.e hm g0 x g re h fun F1 S1 a c t1 xx g1 re1 r1 k1 => ⟨F1, _, t1, xx, Keep.refl, g1, re1.set i r1, k1⟩
def psPar (i j : Nat) (ms : PA) : PSt := fun π t Q => ms π t (fun vs t1 => match vs with
  | [x, y] => Q.nx ((π.set i (.val x)).set j (.val y)) t1
  | _ => False) fun y t1 => Q.ex y π t1
theorem ss_par (i j : Nat) {ms : MA} {pms : PA} (hm : SimA ms pms) : SimS (sPar i j ms) (psPar i j pms) := by
  intro p0 F0 S0 t0 F S ρ π t Q g0 x g re h
  refine SimS.e hm g0 x g re h fun F1 S1 a c t1 xx g1 re1 r1 k1 => ?_
  split at k1
  · obtain ⟨d, e, rfl, r2, r3⟩ := r1.two
    exact ⟨F1, _, t1, xx, Keep.refl, g1, (re1.set i r2).set j r3, k1⟩
  · exact k1.elim
def psBad : PSt := fun _ _ _ => False
/-! ### targets -/
abbrev PG := PV → PSt
abbrev PGs := List PV → PSt
def SimG (g : MG) (pg : PG) : Prop := ∀ p0 F0 S0 t0 F S d v ρ π t Q, Good p0 F0 S0 t0 → Ex p0 F0 S0 F S → Good p0 F S t → REnv p0 F S S0.length π ρ → Rep p0 F S v d → pg v π t Q → ROS p0 F0 S0 F S (g d ρ S) Q
def SimGs (g : MGs) (pg : PGs) : Prop := ∀ p0 F0 S0 t0 F S d v ρ π t Q, Good p0 F0 S0 t0 → Ex p0 F0 S0 F S → Good p0 F S t → REnv p0 F S S0.length π ρ → Reps p0 F S v d → pg v π t Q → ROS p0 F0 S0 F S (g d ρ S) Q
def pgNm (i : Nat) : PG := fun v π t Q => Q.nx (π.set i (.val v)) t
theorem sg_nm (i : Nat) : SimG (gNm i) (pgNm i) := fun p0 F0 S0 t0 F S d v ρ π t Q g0 x g re r h => ⟨F, _, t, x, Keep.refl, g, re.set i r, h⟩
/-- names apart in a tuple: the values, one by one -/
def setsP (π : PEnv) : List Nat → List PV → PEnv
  | i :: is, v :: vs => setsP (π.set i (.val v)) is vs
  | _, _ => π
def gNms : List Nat → MGs
  | [] => gNilM
  | i :: is => gConsM (gNm i) (gNms is)
theorem sgs_nms : ∀ is : List Nat, SimGs (gNms is) (fun vs π t Q => vs.length = is.length ∧ Q.nx (setsP π is vs) t)
  | [] => by
    intro p0 F0 S0 t0 F S d v ρ π t Q g0 x g re r h
    have e : v = [] := List.length_eq_zero_iff.mp h.1
    subst e
    unfold Reps at r; subst r
    exact ⟨F, _, t, x, Keep.refl, g, re, h.2⟩
  | i :: is => by
    intro p0 F0 S0 t0 F S d v ρ π t Q g0 x g re r h
    cases v with
    | nil => cases h.1
    | cons w vs =>
      obtain ⟨d', q, rfl, r1, r2⟩ := r.un
      exact sgs_nms is p0 F0 S0 t0 F S q vs _ _ t Q g0 x g (re.set i r1) r2 ⟨Nat.succ.inj h.1, h.2⟩
def pgTp (is : List Nat) : PG := fun v π t Q => match v with
  | .tup vs => vs.length = is.length ∧ Q.nx (setsP π is vs) t
  | .lst vs => vs.length = is.length ∧ Q.nx (setsP π is vs) t
  | _ => False
theorem sg_tp (is : List Nat) : SimG (gTp is.length (gNms is)) (pgTp is) := by
  intro p0 F0 S0 t0 F S d v ρ π t Q g0 x g re r h
  cases v <;> try exact h.elim
  · obtain ⟨ds, rfl, k⟩ := r.tupL
    unfold gTp; simp only
    rw [if_pos (by rw [k.len]; exact h.1)]
    exact sgs_nms is _ _ _ _ _ _ _ _ _ _ _ _ g0 x g re k h
  · obtain ⟨n, ds, rfl, f, c, k⟩ := r.lstL
    unfold gTp; simp only [c]
    rw [if_pos (by rw [k.len]; exact h.1)]
    exact sgs_nms is _ _ _ _ _ _ _ _ _ _ _ _ g0 x g re k h
def nxP (Q : PPs) : PPs := { Q with rt := fun _ _ => False, ct := fun _ _ => False, bk := fun _ _ => False }
theorem ROS.nx {r : SRes} {Q : PPs} (h : ROS p0 F0 S0 F S r (nxP Q)) : ROS p0 F0 S0 F S (nxOnly r) Q := by
  cases r with
  | next _ _ => exact h
  | exn _ _ _ => exact h
  | ret _ _ => obtain ⟨_, _, _, _, _, _, z⟩ := h; exact z.elim
  | cont _ _ => obtain ⟨_, _, _, _, _, _, _, z⟩ := h; exact z.elim
  | brk _ _ => obtain ⟨_, _, _, _, _, _, _, z⟩ := h; exact z.elim
  | bad => exact h
def psAsg (m : PE) (g : PG) : PSt := fun π t Q => m π t (fun v t1 => g v π t1 (nxP Q)) fun y t1 => Q.ex y π t1
theorem ss_asg {m : ME} {pm : PE} {g : MG} {pg : PG} (hm : SimE m pm) (hg : SimG g pg) : SimS (sAsg m g) (psAsg pm pg) := by
  intro p0 F0 S0 t0 F S ρ π t Q g0 x g re h
  refine SimS.e hm g0 x g re h fun F1 S1 a c t1 xx g1 re1 r1 k1 => ?_
  exact ROS.nx (hg _ _ _ _ _ _ _ _ _ _ _ _ g0 xx g1 re1 r1 k1)
/-! ### loops -/
def forW (g : PG) (body : PSt) : List PV → PSt
  | [] => fun π t Q => Q.nx π t
  | x :: xs => fun π t Q => g x π t (nxP { Q with nx := fun π1 t1 => body π1 t1 { Q with nx := fun π2 t2 => forW g body xs π2 t2 Q, ct := fun π2 t2 => forW g body xs π2 t2 Q, bk := Q.nx } })
def psFor (mi : PI) (g : PG) (body : PSt) : PSt := fun π t Q => mi π t (fun items t1 => forW g body items π t1 Q) fun y t1 => Q.ex y π t1
open Classical in
theorem sim_forM {chk : Store → Prop} {g : MG} {pg : PG} {body : MS} {pb : PSt} (hg : SimG g pg) (hb : SimS body pb) {F1 : Pl} {S1 : Store} (g0 : Good p0 F0 S0 t0) (ck : ∀ F' S', Keep F1 S1 F' S' → chk S') {Q : PPs} :
    ∀ (xs : List PV) (ds : List D) (F : Pl) (S : Store) (ρ : RL.Env) (π : PEnv) (t : Int), Reps p0 F1 S1 xs ds → Keep F1 S1 F S → Ex p0 F0 S0 F S → Good p0 F S t → REnv p0 F S S0.length π ρ → forW pg pb xs π t Q → ROS p0 F0 S0 F S (RL.forM chk g body ds ρ S) Q
  | [], ds, F, S, ρ, π, t, rx, kp, x, gd, re, h => by
    unfold Reps at rx; subst rx
    unfold RL.forM
    exact ⟨F, π, t, x, Keep.refl, gd, re, h⟩
  | v :: xs, ds, F, S, ρ, π, t, rx, kp, x, gd, re, h => by
    obtain ⟨d, ds', rfl, r1, r2⟩ := rx.un
    unfold forW at h
    have z := hg _ _ _ _ _ _ _ _ _ _ _ _ g0 x gd re (r1.mono kp) h
    have z := ROS.nx z
    unfold RL.forM
    cases hr : nxOnly (g d ρ S) with
    | next ρ1 S2 =>
      rw [hr] at z
      obtain ⟨F2, π2, t2, x2, k2, g2, re2, h2⟩ := z
      have zb := hb _ _ _ _ _ _ _ _ _ _ g0 x2 g2 re2 h2
      simp only
      cases hr2 : body ρ1 S2 with
      | next ρ3 S3 =>
        rw [hr2] at zb
        obtain ⟨F3, π3, t3, x3, k3, g3, re3, h3⟩ := zb
        simp only
        rw [if_pos (ck F3 S3 ((kp.trans k2).trans k3))]
        exact (sim_forM hg hb g0 ck xs ds' F3 S3 ρ3 π3 t3 r2 ((kp.trans k2).trans k3) x3 g3 re3 h3).lift (k2.trans k3)
      | cont ρ3 S3 =>
        rw [hr2] at zb
        obtain ⟨F3, π3, t3, x3, k3, g3, re3, h3⟩ := zb
        simp only
        rw [if_pos (ck F3 S3 ((kp.trans k2).trans k3))]
        exact (sim_forM hg hb g0 ck xs ds' F3 S3 ρ3 π3 t3 r2 ((kp.trans k2).trans k3) x3 g3 re3 h3).lift (k2.trans k3)
      | brk ρ3 S3 => rw [hr2] at zb; exact ROS.lift (r := .next ρ3 S3) k2 zb
      | ret d3 S3 => rw [hr2] at zb; exact zb
      | exn y ρ3 S3 => rw [hr2] at zb; exact ROS.lift (r := .exn y ρ3 S3) k2 zb
      | bad => rw [hr2] at zb; exact zb
    | exn y ρ1 S2 => rw [hr] at z; exact z
    | ret d1 S2 => cases hg2 : g d ρ S <;> rw [hg2] at hr <;> cases hr
    | cont d1 S2 => cases hg2 : g d ρ S <;> rw [hg2] at hr <;> cases hr
    | brk d1 S2 => cases hg2 : g d ρ S <;> rw [hg2] at hr <;> cases hr
    | bad => rw [hr] at z; exact z
open Classical in
theorem ss_for {mi : MI} {pi : PI} {g : MG} {pg : PG} {body : MS} {pb : PSt} (hi : SimI mi pi) (hg : SimG g pg) (hb : SimS body pb) : SimS (sFor mi g body) (psFor pi pg pb) := by
  intro p0 F0 S0 t0 F S ρ π t Q g0 x gd re h
  refine SimS.e hi g0 x gd re h fun F1 S1 a c t1 xx g1 re1 r1 k1 => ?_
  rw [if_pos (r1.2 F1 S1 Keep.refl)]
  exact sim_forM hg hb g0 r1.2 c a.items F1 S1 ρ π t1 r1.1 Keep.refl xx g1 re1 k1
def whileW (c : PT) (body : PSt) : Nat → PSt
  | 0 => fun _ _ _ => False
  | n + 1 => fun π t Q => c π t (fun b t1 => if b = true then body π t1 { Q with nx := fun π2 t2 => whileW c body n π2 t2 Q, ct := fun π2 t2 => whileW c body n π2 t2 Q, bk := Q.nx } else Q.nx π t1) fun y t1 => Q.ex y π t1
theorem sim_whileN {c : MT} {pc : PT} {body : MS} {pb : PSt} (hc : SimT c pc) (hb : SimS body pb) : ∀ n m, n ≤ m → SimS (whileN c body m) (whileW pc pb n)
  | 0, _, _ => fun _ _ _ _ _ _ _ _ _ _ _ _ _ _ h => h.elim
  | n + 1, 0, hm => by omega
  | n + 1, m + 1, hm => by
    intro p0 F0 S0 t0 F S ρ π t Q g0 x gd re h
    unfold whileN
    unfold whileW at h
    refine SimS.e hc g0 x gd re h fun F1 S1 a cc t1 xx g1 re1 r1 k1 => ?_
    cases r1
    cases a with
    | false => exact ⟨F1, π, t1, xx, Keep.refl, g1, re1, k1⟩
    | true =>
      simp only [if_true] at k1 ⊢
      have zb := hb _ _ _ _ _ _ _ _ _ _ g0 xx g1 re1 k1
      cases hr2 : body ρ S1 with
      | next ρ3 S3 =>
        rw [hr2] at zb
        obtain ⟨F3, π3, t3, x3, k3, g3, re3, h3⟩ := zb
        exact (sim_whileN hc hb n m (by omega) _ _ _ _ _ _ _ _ _ _ g0 x3 g3 re3 h3).lift k3
      | cont ρ3 S3 =>
        rw [hr2] at zb
        obtain ⟨F3, π3, t3, x3, k3, g3, re3, h3⟩ := zb
        exact (sim_whileN hc hb n m (by omega) _ _ _ _ _ _ _ _ _ _ g0 x3 g3 re3 h3).lift k3
      | brk ρ3 S3 => rw [hr2] at zb; exact zb
      | ret d3 S3 => rw [hr2] at zb; exact zb
      | exn y ρ3 S3 => rw [hr2] at zb; exact zb
      | bad => rw [hr2] at zb; exact zb
def psWhile (c : PT) (body : PSt) : PSt := fun π t Q => ∃ n, n ≤ 1000000 ∧ whileW c body n π t Q
theorem ss_while {c : MT} {pc : PT} {body : MS} {pb : PSt} (hc : SimT c pc) (hb : SimS body pb) : SimS (sWhile (fun _ _ => 1000000) c body) (psWhile pc pb) := by
  intro p0 F0 S0 t0 F S ρ π t Q g0 x gd re h
  obtain ⟨n, hn, h⟩ := h
  exact sim_whileN hc hb n 1000000 hn _ _ _ _ _ _ _ _ _ _ g0 x gd re h
/-! ### a def's body -/
def pBody (n : Nat) (b : PSt) : PF := fun vs t P E => b (vs.map PSlot.val ++ List.replicate (n - vs.length) .no) t ⟨fun _ t1 => P .non t1, P, fun _ _ => False, fun _ _ => False, fun y _ t1 => E y t1⟩
theorem sf_body {n : Nat} {b : MS} {pb : PSt} (hb : SimS b pb) : SimF (mBody n b) (pBody n pb) := by
  intro p0 F S ds vs t P E g r h
  have z := hb p0 F S t F S _ _ t _ g Ex.refl g (REnv.start S.length (n - vs.length) r) h
  unfold mBody
  rw [r.len]
  cases hr : b (ds.map some ++ List.replicate (n - vs.length) none) S with
  | next ρ S1 =>
    rw [hr] at z
    obtain ⟨F1, π1, t1, x1, _, g1, _, k1⟩ := z
    exact ⟨F1, .non, t1, x1, g1, by unfold Rep; rfl, k1⟩
  | ret d S1 => rw [hr] at z; exact z
  | exn y ρ S1 =>
    rw [hr] at z
    obtain ⟨F1, c, π1, t1, x1, _, g1, r1, _, k1⟩ := z
    exact ⟨F1, c, t1, x1, g1, r1, k1⟩
  | cont ρ S1 => rw [hr] at z; obtain ⟨_, _, _, _, _, _, _, k⟩ := z; exact k.elim
  | brk ρ S1 => rw [hr] at z; obtain ⟨_, _, _, _, _, _, _, k⟩ := z; exact k.elim
  | bad => rw [hr] at z; exact z
end
end RP

namespace RP
open PySem PySem.Spec PyProof.Rows L2 RL

section
variable {p0 : Nat} {F F' F0 : Pl} {S S' S0 : Store} {t t0 : Int} {α β γ δ : Type}
theorem ss_bad : SimS RL.sBad psBad := fun _ _ _ _ _ _ _ _ _ _ _ _ _ _ h => h.elim
def zipP : List PV → List PV → List PV := List.zipWith fun a b => PV.tup [a, b]
theorem Reps.zipw : ∀ {vs ws : List PV} {ds es : List D}, Reps p0 F S vs ds → Reps p0 F S ws es → Reps p0 F S (zipP vs ws) (zipD ds es)
  | [], _, _, _, h, _ => by unfold Reps at h; subst h; exact Reps.nil
  | v :: vs, [], _, _, h, k => by
    unfold Reps at k; subst k
    unfold zipP zipD
    simp only [List.zipWith_nil_right]
    exact Reps.nil
  | v :: vs, w :: ws, _, _, h, k => by
    obtain ⟨d, q, rfl, h1, h2⟩ := h.un
    obtain ⟨e, q', rfl, k1, k2⟩ := k.un
    exact Reps.cons (Rep.tupI (Reps.cons h1 (Reps.cons k1 Reps.nil))) (h2.zipw k2)
def piZip (ms : PA) : PI := fun π t P E => ms π t (fun xs t1 => match xs with
  | [.tup a, .tup b] => P (zipP a b) t1
  | [.lst a, .lst b] => P (zipP a b) t1
  | _ => False) E
theorem sim_iZip {ms : MA} {pms : PA} (hs : SimA ms pms) : SimI (iZipM ms) (piZip pms) := by
  intro p0 F S b ρ π t P E re g h
  refine Sim.bind hs re g h fun F1 S1 x v t1 x1 g1 re1 r1 h1 => ?_
  split at h1
  · obtain ⟨d, e, rfl, r2, r3⟩ := r1.two
    obtain ⟨ds, rfl, k⟩ := r2.tupL
    obtain ⟨es, rfl, k'⟩ := r3.tupL
    exact Po.here g1 ⟨k.zipw k', fun _ _ _ => trivial⟩ h1
  · obtain ⟨d, e, rfl, r2, r3⟩ := r1.two
    obtain ⟨n, ds, rfl, f, c, k⟩ := r2.lstL
    obtain ⟨m, es, rfl, f', c', k'⟩ := r3.lstL
    simp only [c, c']
    exact Po.here g1 ⟨k.zipw k', fun F' S' kp => by
      show S'[n]? = some (.lst ds) ∧ S'[m]? = some (.lst es)
      rw [(kp n f).2, (kp m f').2]; exact ⟨c, c'⟩⟩ h1
  · exact h1.elim
def pLe2 : PV → PV → W PV := fun x y t P _ => match x, y with
  | .int i, .int j => P (.bl (decide (i ≤ j))) t
  | .tup a, .tup b => ∃ ns ms, intsP a = some ns ∧ intsP b = some ms ∧ P (.bl (!HT.lexLt ms ns)) t
  | _, _ => False
theorem sop_le2 : SimOp oLe2 pLe2 := by
  intro p0 F S x y v w t P E g r1 r2 h
  unfold pLe2 at h
  split at h
  · unfold Rep at r1 r2; subst r1 r2; exact Po.here g (by unfold Rep; rfl) h
  · obtain ⟨ds, rfl, k1⟩ := r1.tupL
    obtain ⟨es, rfl, k2⟩ := r2.tupL
    obtain ⟨ns, ms, e1, e2, h⟩ := h
    unfold oLe2; simp only [ints_rep k1 e1, ints_rep k2 e2]
    exact Po.here g (by unfold Rep; rfl) h
  · exact h.elim
/-! ### the deck, and the law as a whole -/
def pTake : PF := fun vs t P _ => match vs with
  | [.deck, .int n] => (1 ≤ n ∧ n < 1000000000000 ∧ t < 1000000000000) ∧ ∀ i, 0 ≤ i → i < n → P (.int i) (t + 1)
  | _ => False
theorem sf_take {f : Fn} (hf : ∀ {S : Store} {p : Nat} {t n : Int} {P : D → Store → Prop}, DeckOk S p t → t < 2 ^ 60 → 1 ≤ n → n < 2 ^ 60 →
    (∀ S' i, 0 ≤ i → i < n → DeckOk S' p (t + 1) → S'.length = S.length → Gr (· = p) S S' → P (.int i) S') → Ok (f [.ptr p, .int n] S) P) : SimF f pTake := by
  intro p0 F S ds vs t P E g r h
  unfold pTake at h
  split at h
  · obtain ⟨d, e, rfl, r1, r2⟩ := r.two
    unfold Rep at r1 r2; subst r1 r2
    obtain ⟨⟨h1, h2, h3⟩, h⟩ := h
    have h3 : t < 2 ^ 60 := by omega
    have h2 : _ < (2 : Int) ^ 60 := Int.lt_trans h2 (by decide)
    have z := hf (P := fun d S' => ∃ i, d = .int i ∧ 0 ≤ i ∧ i < _ ∧ DeckOk S' p0 (t + 1) ∧ S'.length = S.length ∧ Gr (· = p0) S S') g.dk h3 h1 h2 fun S' i a b c l q => ⟨i, rfl, a, b, c, l, q⟩
    obtain ⟨a, S', e, i, rfl, h4, h5, h6, h7, h8⟩ := z.eq
    rw [e]
    refine ⟨F, .int i, t + 1, ⟨h8.len, fun n hn hp => h8.same n hn hp, fun _ q => q, fun _ _ q => q⟩, ⟨fun n hn => by rw [h7]; exact g.lt n hn, g.np, h6⟩, by unfold Rep; rfl, h i h4 h5⟩
  · exact h.elim
theorem lawP {n : Nat} {fdeck : Fn} {rest : MS} {prest : PSt} {b : MS} (hb : b = sSeq (sSet 1 (eFn1 1 fdeck (aCons (eVar 0) aNil))) rest)
    (hd : ∀ ns : List Int, ns.length ≤ 63 → (∀ z ∈ ns, bits z ≤ 1048576) → Ok (fdeck [.ptr 0] [.rol (ns.map D.int)]) fun d S' => ∃ p, d = .ptr p ∧ DeckOk S' p 0) (hs : SimS rest prest) (hn : 2 ≤ n)
    (hp : prest (.no :: .val .deck :: List.replicate (n - 2) .no) 0 ⟨fun _ _ => False, fun v _ => v = .bl true, fun _ _ => False, fun _ _ => False, fun _ _ _ => False⟩) : LawTrue 63 (mBody n b) := by
  intro ns h1 h2
  obtain ⟨d, S', e, p, rfl, dk⟩ := (hd ns h1 h2).eq
  have g : Good p (fun _ => False) S' 0 := ⟨fun _ h => h.elim, fun h => h, dk⟩
  have re : REnv p (fun _ => False) S' S'.length (.no :: .val .deck :: List.replicate (n - 2) .no) (some (.ptr 0) :: some (.ptr p) :: List.replicate (n - 2) none) := by
    refine REnv.plain (by simp) fun i v hv => ?_
    match i, hv with
    | 0, hv => cases hv; exact .inl rfl
    | 1, hv => cases hv; exact .inr ⟨.deck, .ptr p, rfl, rfl, by unfold Rep; rfl⟩
    | i + 2, hv => rw [List.getElem?_cons_succ, List.getElem?_cons_succ] at hv; exact .inl (List.mem_replicate.mp (List.mem_of_getElem? hv)).2
  have z := hs p (fun _ => False) S' 0 (fun _ => False) S' _ _ 0 _ g Ex.refl g re hp
  subst hb
  obtain ⟨m, rfl⟩ : ∃ m, n = m + 2 := ⟨n - 2, by omega⟩
  have hz : m + 2 - 2 = m := by omega
  rw [hz] at z
  have e1 : sSeq (sSet 1 (eFn1 1 fdeck (aCons (eVar 0) aNil))) rest ([D.ptr 0].map some ++ List.replicate (m + 2 - [D.ptr 0].length) none) [.rol (ns.map D.int)] = rest (some (.ptr 0) :: some (.ptr p) :: List.replicate m none) S' := by
    have e0 : [D.ptr 0].map some ++ List.replicate (m + 2 - [D.ptr 0].length) none = some (.ptr 0) :: none :: List.replicate m none := by
      simp [List.replicate_succ]
    rw [e0]
    unfold sSeq sSet eFn1
    simp only [aCons, aNil, eVar, Res.bind, List.getElem?_cons_zero, List.length_cons, List.length_nil, Nat.zero_add, if_true, e, ofE, List.set_cons_succ, List.set_cons_zero]
  show ∃ S', mBody (m + 2) _ _ _ = _
  unfold mBody
  rw [e1]
  cases hr : rest (some (.ptr 0) :: some (.ptr p) :: List.replicate m none) S' with
  | ret d S1 =>
    rw [hr] at z
    obtain ⟨F1, v, t1, _, _, r, rfl⟩ := z
    unfold Rep at r; subst r
    exact ⟨S1, rfl⟩
  | next ρ S1 => rw [hr] at z; obtain ⟨_, _, _, _, _, _, _, k⟩ := z; exact k.elim
  | cont ρ S1 => rw [hr] at z; obtain ⟨_, _, _, _, _, _, _, k⟩ := z; exact k.elim
  | brk ρ S1 => rw [hr] at z; obtain ⟨_, _, _, _, _, _, _, k⟩ := z; exact k.elim
  | exn x ρ S1 => rw [hr] at z; obtain ⟨_, _, _, _, _, _, _, _, _, k⟩ := z; exact k.elim
  | bad => rw [hr] at z; exact z.elim
end
end RP

namespace RP
open PySem PySem.Spec PyProof.Rows L2 RL

/-! ### objects of a name's own: made, changed, then frozen -/
section
variable {p0 : Nat} {F F' F0 : Pl} {S S' S0 : Store} {t t0 : Int} {α β γ δ : Type}
theorem REnvA.exA {As : Nat → List Nat} {b : Nat} {π : PEnv} {ρ : RL.Env} (h : REnvA As p0 F S b π ρ) (x : Ex p0 F S F' S') (g : Good p0 F S t) : REnvA As p0 F' S' b π ρ := by
  have kp := x.keep g
  refine ⟨h.len, fun i v e => ?_, fun i s e => ?_, fun i n hn => ?_, h.nd, h.dis⟩
  · obtain ⟨d, e1, r⟩ := h.val i v e
    exact ⟨d, e1, r.mono kp⟩
  · obtain ⟨o, e1, q⟩ := h.own i s e
    exact ⟨o, e1, q.mono kp fun n hn => x.same n (h.off i n hn).2.2.2.2 (h.off i n hn).2.2.2.1⟩
  · obtain ⟨a, c, d, e, f⟩ := h.off i n hn
    exact ⟨a, c, fun z => d (x.old n f z), e, Nat.lt_of_lt_of_le f x.len⟩
/-- writing into a cell of a name's own -/
theorem own_cell {As : Nat → List Nat} {b i n : Nat} {π : PEnv} {ρ : RL.Env} {c : Cell} (h : REnvA As p0 F S b π ρ) (g : Good p0 F S t) (hn : n ∈ As i) :
    Keep F S F (S.set n c) ∧ Good p0 F (S.set n c) t ∧ (∀ j, j ≠ i → ∀ m ∈ As j, (S.set n c)[m]? = S[m]?) ∧ (∀ {F0 S0}, b = S0.length → Ex p0 F0 S0 F S → Ex p0 F0 S0 F (S.set n c)) := by
  obtain ⟨_, hb, nf, np, hl⟩ := h.off i n hn
  refine ⟨fun k hk => ⟨hk, List.getElem?_set_ne fun z => nf (by rw [z]; exact hk)⟩, ⟨fun k hk => by rw [List.length_set]; exact g.lt k hk, g.np, ?_⟩, fun j hj m hm => List.getElem?_set_ne fun z => hj (by subst z; exact h.dis j i n hm hn), fun e x => ?_⟩
  · obtain ⟨a, b', c', hd, rr⟩ := g.dk
    exact ⟨a, b', c', by rw [List.getElem?_set_ne np]; exact hd, rr⟩
  · exact ⟨by rw [List.length_set]; exact x.len, fun m hm hp => by rw [List.getElem?_set_ne (by omega)]; exact x.same m hm hp, x.up, x.old⟩
/-- a new list of one's own -/
theorem REnv.own_new {b : Nat} {π : PEnv} {ρ : RL.Env} {vs : List PV} {ds : List D} {n : Nat} (h : REnv p0 F S b π ρ) (g : Good p0 F S t) (x : Ex p0 F S F' S') (i : Nat) (hb : b ≤ S.length) (hn : S.length ≤ n) (hf : ¬ F' n) (hp : n ≠ p0) (hc : S'[n]? = some (.lst ds)) (r : Reps p0 F' S' vs ds) :
    REnv p0 F' S' b (π.set i (.own vs)) (ρ.set i (some (.ptr n))) := by
  obtain ⟨As, h⟩ := h
  by_cases hi : i < π.length
  · exact ⟨_, h.put i (.own vs) (some (.ptr n)) [n] (x.keep g) (fun m hm z => .inl (x.old m hm z)) (fun j hj m hm => x.same m (h.off j m hm).2.2.2.2 (h.off j m hm).2.2.2.1) x.len List.length_set (fun j hj => List.getElem?_set_ne fun z => hj z.symm) (fun hl => List.getElem?_set_self hl)
      (fun _ => ⟨n, ds, rfl, rfl, hc, r⟩) (fun z => absurd hi z) (fun w e => by cases e) (fun m hm => by rw [List.mem_singleton.mp hm]; exact ⟨by omega, hf, hp, lt_of_get hc⟩) (by simp) fun m hm j hj z => by rw [List.mem_singleton.mp hm] at z; have := (h.off j n z).2.2.2.2; omega⟩
  · have e1 : π.set i (.own vs) = π := List.set_eq_of_length_le (by omega)
    have e2 : ρ.set i (some (.ptr n)) = ρ := List.set_eq_of_length_le (by rw [← h.len]; omega)
    rw [e1, e2]
    exact ⟨As, h.exA x g⟩
/-- expressions that give a new list -/
def SimN (m : ME) (pm : PE) : Prop := ∀ p0 F S b ρ π t (P : List PV → Int → Prop) E, REnv p0 F S b π ρ → Good p0 F S t → pm π t (fun v t1 => match v with
  | .lst vs => P vs t1
  | _ => False) E → RO (m ρ S) (fun a S' => ∃ F' n vs ds t', a = .ptr n ∧ Ex p0 F S F' S' ∧ Good p0 F' S' t' ∧ S.length ≤ n ∧ ¬ F' n ∧ S'[n]? = some (.lst ds) ∧ Reps p0 F' S' vs ds ∧ P vs t') (XO p0 F S E)
theorem newL {P : List PV → Int → Prop} {F1 : Pl} {S1 : Store} {t1 : Int} {vs : List PV} {ds : List D} (x : Ex p0 F S F1 S1) (g : Good p0 F1 S1 t1) (r : Reps p0 F1 S1 vs ds) (h : P vs t1) :
    ∃ F' n vs ds' t', D.ptr S1.length = .ptr n ∧ Ex p0 F S F' (S1 ++ [.lst ds]) ∧ Good p0 F' (S1 ++ [.lst ds]) t' ∧ S.length ≤ n ∧ ¬ F' n ∧ (S1 ++ [Cell.lst ds])[n]? = some (.lst ds') ∧ Reps p0 F' (S1 ++ [.lst ds]) vs ds' ∧ P vs t' :=
  ⟨F1, S1.length, vs, ds, t1, rfl, x.trans (Ex.raw _), g.raw _, x.len, fun z => by have := g.lt _ z; omega, get_last _ _, r.mono ((Ex.raw (p0 := p0) (F := F1) (S := S1) (.lst ds)).keep g), h⟩
theorem SimN.bind {R : Rl β α} {m : RL.Env → Store → Res α} {pm : PEnv → W β} {b : Nat} {ρ : RL.Env} {π : PEnv} {K : β → Int → Prop} {P : List PV → Int → Prop} {E : PX → Int → Prop} {f : α → Store → Res D} (hm : Sim R m pm) (re : REnv p0 F S b π ρ) (g : Good p0 F S t) (h : pm π t K E)
    (go : ∀ F1 S1 a c t1, Ex p0 F S F1 S1 → Good p0 F1 S1 t1 → REnv p0 F1 S1 b π ρ → R p0 F1 S1 c a → K c t1 → RO (f a S1) (fun a S' => ∃ F' n vs ds t', a = .ptr n ∧ Ex p0 F S F' S' ∧ Good p0 F' S' t' ∧ S.length ≤ n ∧ ¬ F' n ∧ S'[n]? = some (.lst ds) ∧ Reps p0 F' S' vs ds ∧ P vs t') (XO p0 F S E)) :
    RO ((m ρ S).bind f) (fun a S' => ∃ F' n vs ds t', a = .ptr n ∧ Ex p0 F S F' S' ∧ Good p0 F' S' t' ∧ S.length ≤ n ∧ ¬ F' n ∧ S'[n]? = some (.lst ds) ∧ Reps p0 F' S' vs ds ∧ P vs t') (XO p0 F S E) := by
  refine RO.bind ((hm p0 F S b ρ π t K E re g h).mono ?_ fun _ _ z => z)
  rintro a S1 ⟨F1, c, t1, x1, g1, r1, k1⟩
  exact go F1 S1 a c t1 x1 g1 (re.ex x1 g) r1 k1
theorem sn_lst {ms : MA} {pms : PA} (hs : SimA ms pms) : SimN (eLst ms) (pLst pms) := by
  intro p0 F S b ρ π t P E re g h
  refine SimN.bind hs re g h fun F1 S1 ds vs t1 x1 g1 re1 r1 k1 => ?_
  rw [if_pos (by rw [r1.len]; exact k1.1)]
  exact newL x1 g1 r1 k1.2
theorem sn_list {ms : MA} {pms : PA} (hs : SimA ms pms) : SimN (eCall fList ms) (pCall pList pms) := by
  intro p0 F S b ρ π t P E re g h
  refine SimN.bind hs re g h fun F1 S1 ds vs t1 x1 g1 re1 r1 k1 => ?_
  unfold pList at k1
  split at k1
  · obtain ⟨d, rfl, r⟩ := r1.one
    obtain ⟨es, rfl, k⟩ := r.tupL
    exact newL x1 g1 k k1
  · obtain ⟨d, rfl, r⟩ := r1.one
    obtain ⟨n, es, rfl, f, c, k⟩ := r.lstL
    unfold fList; simp only [c]
    exact newL x1 g1 k k1
  · exact k1.elim
theorem sn_mul {a c : ME} {pa pc : PE} (ha : SimE a pa) (hc : SimE c pc) : SimN (eBin oMul a c) (pBin pMul pa pc) := by
  intro p0 F S b ρ π t P E re g h
  refine SimN.bind ha re g h fun F1 S1 x v t1 x1 g1 re1 r1 h1 => ?_
  refine RO.bind ((hc p0 F1 S1 b ρ π t1 _ E re1 g1 h1).mono ?_ fun _ _ z => Po.lift x1 z)
  rintro y S2 ⟨F2, w, t2, x2, g2, r2, k2⟩
  have r1' := r1.mono (x2.keep g1)
  have xx := x1.trans x2
  unfold pMul at k2
  split at k2
  · exact k2.2.elim
  · obtain ⟨n, ds, rfl, f1, c1, q1⟩ := r1'.lstL
    unfold Rep at r2; subst r2
    unfold oMul; simp only [c1]; rw [if_pos (by rw [q1.len]; exact k2.1)]
    exact newL xx g2 (q1.replicate _) k2.2
  · exact k2.2.elim
  · exact k2.elim
theorem sn_rg1 {m : ME} {pm : PE} (hm : SimE m pm) : SimN (eRg1 fLstRg m) (pRg1 pLstRg pm) := by
  intro p0 F S b ρ π t P E re g h
  refine SimN.bind hm re g h fun F1 S1 x v t1 x1 g1 re1 r1 h1 => ?_
  cases v <;> try exact h1.elim
  unfold Rep at r1; subst r1
  simp only at h1 ⊢
  unfold fLstRg; rw [if_pos h1.1]
  exact newL x1 g1 (reps_range _ _) h1.2
open Classical in
theorem sn_comp {mi : MI} {pi : PI} {bnd : Bnd} {pb : PBnd} {vs : List Nat} {c : MT} {pc : PT} {e : ME} {pe : PE} (hi : SimI mi pi) (hb : SimB bnd pb) (hc : SimT c pc) (he : SimE e pe) : SimN (eComp mi bnd vs c e) (pComp pi pb vs pc pe) := by
  intro p0 F S b ρ π t P E re g h
  refine SimN.bind hi re g h fun F1 S1 it xs t1 x1 g1 re1 r1 h1 => ?_
  have k0 : Keep F1 S1 F1 (S1 ++ [.lst []]) := fun n hn => ⟨hn, List.getElem?_append_left (g1.lt n hn)⟩
  rw [if_pos (r1.2 F1 _ k0)]
  refine RO.bind ((sim_compT (chk := it.chk) (E' := XO p0 F S E) hb hc he g1 (re1.wipe vs) r1.2 xs it.items [] [] F1 (S1 ++ [.lst []]) t1 r1.1 (Ex.raw _) (g1.raw _) (get_last _ _) (fun z => by have := g1.lt _ z; omega) Reps.nil h1).mono ?_ fun _ _ z => z)
  rintro _ S2 ⟨F2, ws, t2, da, x2, g2, nf, hn, ra, hP⟩
  exact ⟨F2, S1.length, ws, da, t2, rfl, x1.trans x2, g2, x1.len, nf, hn, ra, hP⟩
/-- x = [..] and its like -/
def psOwnE (i : Nat) (pm : PE) : PSt := fun π t Q => pm π t (fun v t1 => match v with
  | .lst vs => Q.nx (π.set i (.own vs)) t1
  | _ => False) fun y t1 => Q.ex y π t1
theorem ss_ownE (i : Nat) {m : ME} {pm : PE} (hm : SimN m pm) : SimS (sSet i m) (psOwnE i pm) := by
  intro p0 F0 S0 t0 F S ρ π t Q g0 x g re h
  have z := hm p0 F S S0.length ρ π t _ _ re g h
  unfold sSet
  cases hr : m ρ S with
  | ok d S1 =>
    rw [hr] at z
    obtain ⟨F1, n, vs, ds, t1, rfl, x1, g1, hn, nf, hc, r1, k1⟩ := z
    exact ⟨F1, _, t1, x.trans x1, x1.keep g, g1, re.own_new g x1 i x.len hn nf (by have := g.p0lt; omega) hc r1, k1⟩
  | exn y S1 =>
    rw [hr] at z
    obtain ⟨F1, c, t1, x1, g1, r1, k1⟩ := z
    exact ⟨F1, c, π, t1, x.trans x1, x1.keep g, g1, r1, re.ex x1 g, k1⟩
  | bad => rw [hr] at z; exact z
def psOwn (i : Nat) (ms : PA) : PSt := fun π t Q => ms π t (fun vs t1 => vs.length ≤ sizeLine ∧ Q.nx (π.set i (.own vs)) t1) fun y t1 => Q.ex y π t1
theorem ss_own (i : Nat) {ms : MA} {pms : PA} (hs : SimA ms pms) : SimS (sSet i (eLst ms)) (psOwn i pms) := ss_ownE i (sn_lst hs)
/-- x, y = a, b, each a value or a new list -/
def slotO : Bool → PV → PSlot
  | true, .lst vs => .own vs
  | true, _ => .no
  | false, v => .val v
def onlyB : Bool → (PV → Int → Prop) → PV → Int → Prop
  | false, K => K
  | true, K => fun v t => match v with
    | .lst vs => K (.lst vs) t
    | _ => False
def SimB2 : Bool → ME → PE → Prop
  | true, m, pm => SimN m pm
  | false, m, pm => SimE m pm
/-- what such an expression gives, ahead of its name -/
def Give (p0 : Nat) (F' : Pl) (S S' : Store) : Bool → PV → D → Prop
  | false, v, d => Rep p0 F' S' v d
  | true, v, d => ∃ n vs ds, v = .lst vs ∧ d = .ptr n ∧ S.length ≤ n ∧ ¬ F' n ∧ S'[n]? = some (.lst ds) ∧ Reps p0 F' S' vs ds
theorem give {o : Bool} {m : ME} {pm : PE} (hm : SimB2 o m pm) {b : Nat} {ρ : RL.Env} {π : PEnv} {K : PV → Int → Prop} {E : PX → Int → Prop} (re : REnv p0 F S b π ρ) (g : Good p0 F S t) (h : pm π t (onlyB o K) E) :
    RO (m ρ S) (fun d S' => ∃ F' v t', Ex p0 F S F' S' ∧ Good p0 F' S' t' ∧ Give p0 F' S S' o v d ∧ K v t') (XO p0 F S E) := by
  cases o with
  | false =>
    refine (hm p0 F S b ρ π t _ E re g h).mono ?_ fun _ _ z => z
    rintro d S' ⟨F', v, t', x, g', r, k⟩
    exact ⟨F', v, t', x, g', r, k⟩
  | true =>
    refine (hm p0 F S b ρ π t (fun vs t => K (.lst vs) t) E re g h).mono ?_ fun _ _ z => z
    rintro d S' ⟨F', n, vs, ds, t', e, x, g', h1, h2, h3, h4, k⟩
    exact ⟨F', .lst vs, t', x, g', ⟨n, vs, ds, rfl, e, h1, h2, h3, h4⟩, k⟩
theorem Give.later {F1 F2 : Pl} {S1 S2 : Store} {o : Bool} {v : PV} {d : D} (h : Give p0 F1 S S1 o v d) (g : Good p0 F S t) {t1 : Int} (g1 : Good p0 F1 S1 t1) (x : Ex p0 F1 S1 F2 S2) : Give p0 F2 S S2 o v d := by
  cases o with
  | false => exact Rep.mono (x.keep g1) _ _ h
  | true =>
    obtain ⟨n, vs, ds, e1, e2, h1, h2, h3, h4⟩ := h
    have hl := lt_of_get h3
    exact ⟨n, vs, ds, e1, e2, h1, fun z => h2 (x.old n hl z), by rw [x.same n hl fun z => by have := g.p0lt; omega]; exact h3, h4.mono (x.keep g1)⟩
/-- a name takes what was given -/
theorem REnvA.take {As : Nat → List Nat} {b : Nat} {π : PEnv} {ρ : RL.Env} {o : Bool} {v : PV} {d : D} (h : REnvA As p0 F' S' b π ρ) (i : Nat) (hb : b ≤ S.length) (hp : p0 < S.length) (gv : Give p0 F' S S' o v d) (new : ∀ n, d = .ptr n → o = true → ∀ j, n ∉ As j) :
    ∃ Bs, REnvA Bs p0 F' S' b (π.set i (slotO o v)) (ρ.set i (some d)) ∧ ∀ n, ¬ (o = true ∧ d = .ptr n) → (∀ q, n ∉ As q) → ∀ q, n ∉ Bs q := by
  cases o with
  | false =>
    have hg : Rep p0 F' S' v d := gv
    exact ⟨_, h.put i (.val v) (some d) [] Keep.refl (fun _ _ z => .inl z) (fun _ _ _ _ => rfl) (Nat.le_refl _) List.length_set (fun j hj => List.getElem?_set_ne fun z => hj z.symm) (fun hl => List.getElem?_set_self hl) (fun _ => rfl) (fun _ => rfl) (fun w e => by cases e; exact ⟨d, rfl, hg⟩) (fun _ z => by cases z) List.nodup_nil (fun _ z => by cases z), fun n _ hn q hq => by
      by_cases hqi : q = i
      · rw [if_pos hqi] at hq; cases hq
      · rw [if_neg hqi] at hq; exact hn q hq⟩
  | true =>
    obtain ⟨m, vs, ds, rfl, rfl, h1, h2, h3, h4⟩ := gv
    by_cases hi : i < π.length
    · exact ⟨_, h.put i (.own vs) (some (.ptr m)) [m] Keep.refl (fun k hk z => .inl z) (fun j hj k hk => rfl) (Nat.le_refl _) List.length_set (fun j hj => List.getElem?_set_ne fun z => hj z.symm) (fun hl => List.getElem?_set_self hl)
        (fun _ => ⟨m, ds, rfl, rfl, h3, h4⟩) (fun z => absurd hi z) (fun w e => by cases e) (fun k hk => by rw [List.mem_singleton.mp hk]; exact ⟨by omega, h2, by omega, lt_of_get h3⟩) (by simp) (fun k hk j hj => by rw [List.mem_singleton.mp hk]; exact new m rfl rfl j), fun n hne hn q hq => by
        by_cases hqi : q = i
        · rw [if_pos hqi] at hq
          exact hne ⟨rfl, by rw [List.mem_singleton.mp hq]⟩
        · rw [if_neg hqi] at hq; exact hn q hq⟩
    · have e1 : π.set i (slotO true (.lst vs)) = π := List.set_eq_of_length_le (by omega)
      have e2 : ρ.set i (some (.ptr m)) = ρ := List.set_eq_of_length_le (by rw [← h.len]; omega)
      rw [e1, e2]
      exact ⟨As, h, fun n _ hn => hn⟩
theorem Give.ge {F1 : Pl} {S1 : Store} {o : Bool} {v : PV} {d : D} (h : Give p0 F1 S S1 o v d) {n : Nat} (e : d = .ptr n) (ho : o = true) : S.length ≤ n ∧ n < S1.length := by
  subst ho
  obtain ⟨m, vs, ds, _, e2, h1, _, h3, _⟩ := h
  rw [e] at e2; cases e2
  exact ⟨h1, lt_of_get h3⟩
theorem Give.from {F1 : Pl} {S0 S1 : Store} {o : Bool} {v : PV} {d : D} (h : Give p0 F1 S S1 o v d) (hl : S0.length ≤ S.length) : Give p0 F1 S0 S1 o v d := by
  cases o with
  | false => exact h
  | true =>
    obtain ⟨n, vs, ds, e1, e2, h1, h2⟩ := h
    exact ⟨n, vs, ds, e1, e2, by omega, h2⟩
def psPar2 (oa ob : Bool) (i j : Nat) (pa pb : PE) : PSt := fun π t Q => i ≠ j ∧ pa π t (onlyB oa fun x t1 => pb π t1 (onlyB ob fun y t2 => Q.nx ((π.set i (slotO oa x)).set j (slotO ob y)) t2) fun y t1 => Q.ex y π t1) fun y t1 => Q.ex y π t1
theorem ss_par2 (oa ob : Bool) (i j : Nat) {ma mb : ME} {pa pb : PE} (ha : SimB2 oa ma pa) (hb : SimB2 ob mb pb) : SimS (sPar i j (aCons ma (aCons mb aNil))) (psPar2 oa ob i j pa pb) := by
  intro p0 F0 S0 t0 F S ρ π t Q g0 x g re h
  obtain ⟨hij, h⟩ := h
  have z := give ha re g h
  unfold sPar aCons aNil
  cases hr : ma ρ S with
  | exn y S1 =>
    rw [hr] at z
    obtain ⟨F1, c, t1, x1, g1, r1, k1⟩ := z
    exact ⟨F1, c, π, t1, x.trans x1, x1.keep g, g1, r1, re.ex x1 g, k1⟩
  | bad => rw [hr] at z; exact z
  | ok d S1 =>
    rw [hr] at z
    obtain ⟨F1, v, t1, x1, g1, gv, k1⟩ := z
    have re1 := re.ex x1 g
    have z2 := give hb re1 g1 k1
    simp only [Res.bind]
    cases hr2 : mb ρ S1 with
    | exn y S2 =>
      rw [hr2] at z2
      obtain ⟨F2, c, t2, x2, g2, r2, k2⟩ := z2
      exact ⟨F2, c, π, t2, (x.trans x1).trans x2, (x1.trans x2).keep g, g2, r2, re1.ex x2 g1, k2⟩
    | bad => rw [hr2] at z2; exact z2
    | ok e S2 =>
      rw [hr2] at z2
      obtain ⟨F2, w, t2, x2, g2, gw, k2⟩ := z2
      have xx := x1.trans x2
      have l1 := x1.len
      have l2 := x2.len
      obtain ⟨As, re⟩ := re
      have rA := re.exA xx g
      have off : ∀ n, S.length ≤ n → ∀ q, n ∉ As q := fun n hn q hq => by have := (re.off q n hq).2.2.2.2; omega
      obtain ⟨Bs, rB, nB⟩ := rA.take i x.len g.p0lt (gv.later g g1 x2) fun n e1 e2 => off n (gv.ge e1 e2).1
      obtain ⟨Cs, rC, _⟩ := rB.take j (by have := x.len; omega) (by have := g.p0lt; omega) gw fun n e1 e2 => nB n (fun ⟨e3, e4⟩ => by have := (gw.ge e1 e2).1; have := (gv.ge e4 e3).2; omega) (off n (by have := (gw.ge e1 e2).1; omega))
      exact ⟨F2, _, t2, x.trans xx, xx.keep g, g2, ⟨Cs, rC⟩, k2⟩
def psPar3 (oa ob oc : Bool) (i j l : Nat) (pa pb pc : PE) : PSt := fun π t Q => pa π t (onlyB oa fun x t1 => pb π t1 (onlyB ob fun y t2 => pc π t2 (onlyB oc fun z t3 => Q.nx (((π.set i (slotO oa x)).set j (slotO ob y)).set l (slotO oc z)) t3) fun y t1 => Q.ex y π t1) fun y t1 => Q.ex y π t1) fun y t1 => Q.ex y π t1
theorem ss_par3 (oa ob oc : Bool) (i j l : Nat) {ma mb mc : ME} {pa pb pc : PE} (ha : SimB2 oa ma pa) (hb : SimB2 ob mb pb) (hc : SimB2 oc mc pc) : SimS (sPar3 i j l (aCons ma (aCons mb (aCons mc aNil)))) (psPar3 oa ob oc i j l pa pb pc) := by
  intro p0 F0 S0 t0 F S ρ π t Q g0 x g re h
  have z := give ha re g h
  unfold sPar3 aCons aNil
  cases hr : ma ρ S with
  | exn y S1 =>
    rw [hr] at z
    obtain ⟨F1, c, t1, x1, g1, r1, k1⟩ := z
    exact ⟨F1, c, π, t1, x.trans x1, x1.keep g, g1, r1, re.ex x1 g, k1⟩
  | bad => rw [hr] at z; exact z
  | ok d S1 =>
    rw [hr] at z
    obtain ⟨F1, v, t1, x1, g1, gv, k1⟩ := z
    have re1 := re.ex x1 g
    have z2 := give hb re1 g1 k1
    simp only [Res.bind]
    cases hr2 : mb ρ S1 with
    | exn y S2 =>
      rw [hr2] at z2
      obtain ⟨F2, c, t2, x2, g2, r2, k2⟩ := z2
      exact ⟨F2, c, π, t2, (x.trans x1).trans x2, (x1.trans x2).keep g, g2, r2, re1.ex x2 g1, k2⟩
    | bad => rw [hr2] at z2; exact z2
    | ok e S2 =>
      rw [hr2] at z2
      obtain ⟨F2, w, t2, x2, g2, gw, k2⟩ := z2
      have re2 := re1.ex x2 g1
      have z3 := give hc re2 g2 k2
      simp only [Res.bind]
      cases hr3 : mc ρ S2 with
      | exn y S3 =>
        rw [hr3] at z3
        obtain ⟨F3, c, t3, x3, g3, r3, k3⟩ := z3
        exact ⟨F3, c, π, t3, ((x.trans x1).trans x2).trans x3, ((x1.trans x2).trans x3).keep g, g3, r3, re2.ex x3 g2, k3⟩
      | bad => rw [hr3] at z3; exact z3
      | ok f S3 =>
        rw [hr3] at z3
        obtain ⟨F3, u, t3, x3, g3, gu, k3⟩ := z3
        have xx := (x1.trans x2).trans x3
        have l1 := x1.len
        have l2 := x2.len
        have l3 := x3.len
        obtain ⟨As, re⟩ := re
        have rA := re.exA xx g
        have off : ∀ n, S.length ≤ n → ∀ q, n ∉ As q := fun n hn q hq => by have := (re.off q n hq).2.2.2.2; omega
        obtain ⟨Bs, rB, nB⟩ := rA.take i x.len g.p0lt (gv.later g g1 (x2.trans x3)) fun n e1 e2 => off n (gv.ge e1 e2).1
        obtain ⟨Cs, rC, nC⟩ := rB.take j (by have := x.len; omega) (by have := g.p0lt; omega) (gw.later g1 g2 x3) fun n e1 e2 => nB n (fun ⟨e3, e4⟩ => by have := (gw.ge e1 e2).1; have := (gv.ge e4 e3).2; omega) (off n (by have := (gw.ge e1 e2).1; omega))
        obtain ⟨Ds, rD, _⟩ := rC.take l (by have := x.len; omega) (by have := g.p0lt; omega) gu fun n e1 e2 => nC n (fun ⟨e3, e4⟩ => by have := (gu.ge e1 e2).1; have := (gw.ge e4 e3).2; omega) (nB n (fun ⟨e3, e4⟩ => by have := (gu.ge e1 e2).1; have := (gv.ge e4 e3).2; omega) (off n (by have := (gu.ge e1 e2).1; omega)))
        exact ⟨F3, _, t3, x.trans xx, xx.keep g, g3, ⟨Ds, rD⟩, k3⟩
/-- a name's own list in its cell -/
theorem REnvA.get {As : Nat → List Nat} {b i : Nat} {π : PEnv} {ρ : RL.Env} {vs : List PV} (h : REnvA As p0 F S b π ρ) (e : π[i]? = some (.own vs)) : ∃ n ds, ρ[i]? = some (some (.ptr n)) ∧ As i = [n] ∧ S[n]? = some (.lst ds) ∧ Reps p0 F S vs ds := by
  obtain ⟨o, e1, n, ds, rfl, a, c, r⟩ := h.own i _ e
  exact ⟨n, ds, e1, a, c, r⟩
theorem ptr_own {b i n : Nat} {As : Nat → List Nat} {π : PEnv} {ρ : RL.Env} (h : REnvA As p0 F S b π ρ) (a : n ∈ As i) : b ≤ n ∧ ¬ F n ∧ n ≠ p0 ∧ n < S.length := (h.off i n a).2
/-- a list of one's own written anew -/
theorem own_put {As : Nat → List Nat} {b i n : Nat} {π : PEnv} {ρ : RL.Env} {vs ws : List PV} {es : List D} (h : REnvA As p0 F S b π ρ) (g : Good p0 F S t) (e : π[i]? = some (.own vs)) (hn : ρ[i]? = some (some (.ptr n))) (r : Reps p0 F S ws es) (hb : b = S0.length) (x : Ex p0 F0 S0 F S) :
    Good p0 F (S.set n (.lst es)) t ∧ Keep F S F (S.set n (.lst es)) ∧ REnv p0 F (S.set n (.lst es)) b (π.set i (.own ws)) ρ ∧ Ex p0 F0 S0 F (S.set n (.lst es)) := by
  obtain ⟨m, ds, a1, a2, a3, _⟩ := h.get e
  rw [hn] at a1; cases a1
  have hm : n ∈ As i := by rw [a2]; exact List.mem_cons_self
  obtain ⟨kp, g', sm, hx⟩ := own_cell (c := .lst es) h g hm
  refine ⟨g', kp, ⟨_, h.put i (.own ws) (some (.ptr n)) [n] kp (fun _ _ z => .inl z) sm (by rw [List.length_set]; exact Nat.le_refl _) rfl (fun _ _ => rfl) (fun _ => hn) (fun _ => ⟨n, es, rfl, rfl, List.getElem?_set_self (lt_of_get a3), r.mono kp⟩) (fun z => absurd (h.off i n hm).1 z) (fun w e => by cases e) (fun k hk => ?_) (by simp) fun k hk j hj z => ?_⟩, hx hb x⟩
  · rw [List.mem_singleton.mp hk]
    obtain ⟨q1, q2, q3, q4⟩ := ptr_own h hm
    exact ⟨q1, q2, q3, by rw [List.length_set]; exact q4⟩
  · rw [List.mem_singleton.mp hk] at z; exact hj (h.dis j i n z hm)
/-- x.append(e), x.extend(e): what is added -/
def addV : Bool → PV → Option (List PV)
  | true, v => some [v]
  | false, .lst ws => some ws
  | false, _ => none
def fAdd : Bool → D → List D → Store → Res D
  | true => fAppend
  | false => fExtend
theorem add_run {app : Bool} {v : PV} {d : D} {n : Nat} {ds : List D} {ws : List PV} (rd : Rep p0 F S v d) (e : addV app v = some ws) (hc : S[n]? = some (.lst ds)) (hl : ds.length + ws.length ≤ sizeLine) : ∃ es, fAdd app (.ptr n) [d] S = .ok .non (S.set n (.lst (ds ++ es))) ∧ Reps p0 F S ws es := by
  cases app with
  | true =>
    cases e
    refine ⟨[d], ?_, Reps.cons rd Reps.nil⟩
    unfold fAdd fAppend; simp only [hc]
    rw [if_pos (by have : ds.length + 1 ≤ sizeLine := by simpa using hl
                   omega)]
  | false =>
    cases v <;> try (cases e; done)
    cases e
    obtain ⟨m, zs, rfl, _, c, k⟩ := rd.lstL
    refine ⟨zs, ?_, k⟩
    unfold fAdd fExtend; simp only [hc, c]
    rw [if_pos (by rw [k.len]; exact hl)]
def psAdd (app : Bool) (i : Nat) (m : PE) : PSt := fun π t Q => (∃ vs, π[i]? = some (.own vs)) ∧ m π t (fun v t1 => ∃ vs ws, π[i]? = some (.own vs) ∧ addV app v = some ws ∧ vs.length + ws.length ≤ sizeLine ∧ Q.nx (π.set i (.own (vs ++ ws))) t1) fun y t1 => Q.ex y π t1
theorem ss_add (app : Bool) (i : Nat) {m : ME} {pm : PE} (hm : SimE m pm) : SimS (sDrop (eMtL (fAdd app) (eVar i) (aCons m aNil))) (psAdd app i pm) := by
  intro p0 F0 S0 t0 F S ρ π t Q g0 x g re h0
  obtain ⟨⟨us, hu⟩, h⟩ := h0
  obtain ⟨As, re⟩ := re
  obtain ⟨n, es, c1, c2, c3, c4⟩ := re.get hu
  have z := hm p0 F S S0.length ρ π t _ _ ⟨As, re⟩ g h
  have e0 : eVar i ρ S = .ok (.ptr n) S := by unfold eVar; rw [c1]
  unfold sDrop eMtL
  rw [e0]
  simp only [Res.bind]
  rw [if_pos (by unfold isLst; simp only; rw [c3])]
  unfold aCons aNil
  cases hr : m ρ S with
  | ok d S1 =>
    rw [hr] at z
    obtain ⟨F1, v, t1, x1, g1, r1, vs, ws, e1, ea, hl, k1⟩ := z
    have re1 := re.exA x1 g
    obtain ⟨n', ds, a1, a2, a3, ra⟩ := re1.get e1
    rw [c1] at a1; cases a1
    obtain ⟨es', er, rw'⟩ := add_run r1 ea a3 (by rw [ra.len]; exact hl)
    simp only [Res.bind]
    rw [er]
    have xx := x.trans x1
    obtain ⟨g2, kp, re2, xe⟩ := own_put re1 g1 e1 c1 (ra.append rw') rfl xx
    exact ⟨F1, _, t1, xe, (x1.keep g).trans kp, g2, re2, k1⟩
  | exn y S1 =>
    rw [hr] at z
    obtain ⟨F1, c, t1, x1, g1, r1, k1⟩ := z
    exact ⟨F1, c, π, t1, x.trans x1, x1.keep g, g1, r1, ⟨As, re.exA x1 g⟩, k1⟩
  | bad => rw [hr] at z; exact z
def psAppend (i : Nat) (m : PE) : PSt := psAdd true i m
theorem ss_append (i : Nat) {m : ME} {pm : PE} (hm : SimE m pm) : SimS (sDrop (eMtL fAppend (eVar i) (aCons m aNil))) (psAppend i pm) := ss_add true i hm
def psExtend (i : Nat) (m : PE) : PSt := psAdd false i m
theorem ss_extend (i : Nat) {m : ME} {pm : PE} (hm : SimE m pm) : SimS (sDrop (eMtL fExtend (eVar i) (aCons m aNil))) (psExtend i pm) := ss_add false i hm
theorem SimS.ek {R : Rl β α} {m : RL.Env → Store → Res α} {pm : PEnv → W β} {ρ : RL.Env} {π : PEnv} {K : β → Int → Prop} {Q : PPs} {f : α → Store → SRes} (hm : Sim R m pm) (g0 : Good p0 F0 S0 t0) (x : Ex p0 F0 S0 F S) (g : Good p0 F S t) (re : REnv p0 F S S0.length π ρ)
    (h : pm π t K fun y t1 => Q.ex y π t1)
    (go : ∀ F1 S1 a c t1, Keep F S F1 S1 → Ex p0 F0 S0 F1 S1 → Good p0 F1 S1 t1 → REnv p0 F1 S1 S0.length π ρ → R p0 F1 S1 c a → K c t1 → ROS p0 F0 S0 F1 S1 (f a S1) Q) : ROS p0 F0 S0 F S (ofE (m ρ S) ρ f) Q := by
  have z := hm p0 F S S0.length ρ π t K _ re g h
  cases hr : m ρ S with
  | ok a S1 =>
    rw [hr] at z
    obtain ⟨F1, c, t1, x1, g1, r1, k1⟩ := z
    exact (go F1 S1 a c t1 (x1.keep g) (x.trans x1) g1 (re.ex x1 g) r1 k1).lift (x1.keep g)
  | exn y S1 =>
    rw [hr] at z
    obtain ⟨F1, c, t1, x1, g1, r1, k1⟩ := z
    exact ⟨F1, c, π, t1, x.trans x1, x1.keep g, g1, r1, re.ex x1 g, k1⟩
  | bad => rw [hr] at z; exact z
/-- x[k] = e -/
def psPut (i : Nat) (mk m : PE) : PSt := fun π t Q => (∃ vs, π[i]? = some (.own vs)) ∧ m π t (fun v t1 => mk π t1 (fun k t2 => match k with
  | .int k => ∃ vs j, π[i]? = some (.own vs) ∧ ixN vs.length k = some j ∧ Q.nx (π.set i (.own (vs.set j v))) t2
  | _ => False) fun y t1 => Q.ex y π t1) fun y t1 => Q.ex y π t1
theorem ss_put (i : Nat) {mk m : ME} {pk pm : PE} (hk : SimE mk pk) (hm : SimE m pm) : SimS (sAsg m (gSubM (eVar i) mk)) (psPut i pk pm) := by
  intro p0 F0 S0 t0 F S ρ π t Q g0 x g re h0
  obtain ⟨⟨us, hu⟩, h⟩ := h0
  refine SimS.e hm g0 x g re h fun F1 S1 d v t1 x1 g1 re1 r1 h1 => ROS.nx ?_
  obtain ⟨As, re1⟩ := re1
  obtain ⟨n, es, c1, c2, c3, c4⟩ := re1.get hu
  have e0 : eVar i ρ S1 = .ok (.ptr n) S1 := by unfold eVar; rw [c1]
  unfold gSubM
  rw [e0]
  simp only [ofE]
  refine SimS.ek (Q := nxP Q) hk g0 x1 g1 ⟨As, re1⟩ h1 fun F2 S2 dk k t2 k12 x2 g2 re2 r2 h2 => ?_
  cases k <;> try exact h2.elim
  unfold Rep at r2; subst r2
  obtain ⟨vs, j, e1, hj, h2⟩ := h2
  obtain ⟨As2, re2⟩ := re2
  obtain ⟨n', ds, a1, a2, a3, ra⟩ := re2.get e1
  rw [c1] at a1; cases a1
  unfold putL
  simp only [a3]
  rw [ra.len, hj]
  simp only [Option.map_some]
  have hkeep : Rep p0 F2 S2 v d := r1.mono k12
  obtain ⟨g3, kp, re3, xe⟩ := own_put re2 g2 e1 c1 (ra.set j hkeep) rfl x2
  exact ⟨F2, _, t2, xe, kp, g3, re3, h2⟩
/-- from here on what the name holds is a value -/
def frzS : PSlot → PSlot
  | .own vs => .val (.lst vs)
  | .obj (.lsts vss) => .val (.lst (vss.map .lst))
  | .obj (.dl _) => .no
  | s => s
def frz (π : PEnv) (i : Nat) : PEnv := match π[i]? with
  | some s => π.set i (frzS s)
  | _ => π
theorem ownLs_rep : ∀ {ns : List Nat} {vss : List (List PV)}, OwnLs p0 F S ns vss → (∀ n ∈ ns, F n) → Reps p0 F S (vss.map .lst) (ns.map D.ptr)
  | [], [], _, _ => Reps.nil
  | n :: ns, vs :: vss, h, hf => by
    obtain ⟨⟨ds, c, r⟩, h2⟩ := h
    refine Reps.cons ?_ (ownLs_rep h2 fun m hm => hf m (List.mem_cons_of_mem _ hm))
    unfold Rep
    exact ⟨n, ds, rfl, hf n List.mem_cons_self, c, r⟩
  | [], _ :: _, h, _ => h.elim
  | _ :: _, [], h, _ => h.elim
theorem frz_keep {As : Nat → List Nat} {b : Nat} {π : PEnv} {ρ : RL.Env} (h : REnvA As p0 F S b π ρ) (g : Good p0 F S t) (i : Nat) :
    Keep F S (fun k => F k ∨ k ∈ As i) S ∧ Good p0 (fun k => F k ∨ k ∈ As i) S t ∧ ∃ Bs, REnvA Bs p0 (fun k => F k ∨ k ∈ As i) S b (frz π i) ρ := by
  have kp : Keep F S (fun k => F k ∨ k ∈ As i) S := fun k hk => ⟨.inl hk, rfl⟩
  refine ⟨kp, ⟨fun k hk => hk.elim (g.lt k) fun z => (h.off i k z).2.2.2.2, fun hk => hk.elim g.np fun z => (h.off i p0 z).2.2.2.1 rfl, g.dk⟩, ?_⟩
  unfold frz
  cases e : π[i]? with
  | none =>
    have hA : As i = [] := by
      by_cases hA : As i = []
      · exact hA
      · obtain ⟨n, ns, hc⟩ := List.exists_cons_of_ne_nil hA
        have := (h.off i n (by rw [hc]; exact List.mem_cons_self)).1
        rw [List.getElem?_eq_none_iff] at e; omega
    refine ⟨As, ?_⟩
    have := h.put i .no none [] kp (fun m _ z => z) (fun _ _ _ _ => rfl) (Nat.le_refl _) (ρ' := ρ) rfl (fun _ _ => rfl) (fun hl => by rw [List.getElem?_eq_none_iff] at e; have := h.len; omega) (fun hl => by rw [List.getElem?_eq_none_iff] at e; omega) (fun _ => rfl) (fun v z => by cases z) (fun _ z => by cases z) List.nodup_nil fun _ z => by cases z
    have e1 : π.set i .no = π := List.set_eq_of_length_le (by rw [List.getElem?_eq_none_iff] at e; exact e)
    have e2 : (fun j => if j = i then [] else As j) = As := by
      funext j; by_cases hj : j = i
      · rw [if_pos hj, hj, hA]
      · rw [if_neg hj]
    rw [e1, e2] at this
    exact this
  | some s =>
    obtain ⟨o, e1, q⟩ := h.own i s e
    have hi : i < π.length := (List.getElem?_eq_some_iff.mp e).1
    simp only
    have key : OwnS p0 (fun k => F k ∨ k ∈ As i) S (frzS s) o [] ∧ ∀ v, frzS s = .val v → ∃ d, o = some d ∧ Rep p0 (fun k => F k ∨ k ∈ As i) S v d := by
      cases s with
      | no => exact ⟨rfl, fun v z => by cases z⟩
      | val w =>
        refine ⟨rfl, fun v z => ?_⟩
        cases z
        obtain ⟨d, e2, r⟩ := h.val i w e
        rw [e1] at e2; cases e2
        exact ⟨d, rfl, r.mono kp⟩
      | own vs =>
        refine ⟨rfl, fun v z => ?_⟩
        cases z
        obtain ⟨n, ds, rfl, a, c, r⟩ := q
        refine ⟨_, rfl, ?_⟩
        unfold Rep
        exact ⟨n, ds, rfl, .inr (by rw [a]; exact List.mem_cons_self), c, r.mono kp⟩
      | obj x =>
        cases x with
        | lsts vss =>
          refine ⟨rfl, fun v z => ?_⟩
          cases z
          obtain ⟨n, ns, rfl, a, c, r⟩ := q
          refine ⟨_, rfl, ?_⟩
          unfold Rep
          exact ⟨n, _, rfl, .inr (by rw [a]; exact List.mem_cons_self), c, ownLs_rep (r.mono kp fun _ _ => rfl) fun m hm => .inr (by rw [a]; exact List.mem_cons_of_mem _ hm)⟩
        | dl kvs => exact ⟨rfl, fun v z => by cases z⟩
    exact ⟨_, h.put i (frzS s) o [] kp (fun m _ z => z) (fun _ _ _ _ => rfl) (Nat.le_refl _) rfl (fun _ _ => rfl) (fun _ => e1) (fun _ => key.1) (fun _ => rfl) key.2 (fun _ z => by cases z) List.nodup_nil fun _ z => by cases z⟩
def psFrz (i : Nat) (m : PSt) : PSt := fun π t Q => m (frz π i) t Q
theorem ss_frz (i : Nat) {m : MS} {pm : PSt} (hm : SimS m pm) : SimS m (psFrz i pm) := by
  intro p0 F0 S0 t0 F S ρ π t Q g0 x g re h
  obtain ⟨As, re⟩ := re
  obtain ⟨kp, g1, Bs, re1⟩ := frz_keep re g i
  have x1 : Ex p0 F0 S0 (fun k => F k ∨ k ∈ As i) S := ⟨x.len, x.same, fun k hk => .inl (x.up k hk), fun k hk q => q.elim (x.old k hk) fun z => by have := (re.off i k z).2.1; omega⟩
  exact (hm _ _ _ _ _ _ _ _ _ _ g0 x1 g1 ⟨Bs, re1⟩ h).lift kp
end
end RP

namespace RP
open PySem PySem.Spec PyProof.Rows L2 RL

section
variable {p0 : Nat} {F F' F0 : Pl} {S S' S0 : Store} {t t0 : Int} {α β γ δ : Type}
/-! ### a look at an object of a name's own: what comes of it holds no list -/
mutual
def plainP : PV → Bool
  | .non | .bl _ | .int _ | .str _ => true
  | .tup vs => plainPs vs
  | _ => false
def plainPs : List PV → Bool
  | [] => true
  | v :: vs => plainP v && plainPs vs
end
mutual
theorem Rep.plain : ∀ (v : PV) (d : D), plainP v = true → Rep p0 F S v d → Rep p0 F' S' v d
  | .non, _, _, h => by unfold Rep at h ⊢; exact h
  | .bl _, _, _, h => by unfold Rep at h ⊢; exact h
  | .int _, _, _, h => by unfold Rep at h ⊢; exact h
  | .str _, _, _, h => by unfold Rep at h ⊢; exact h
  | .tup vs, _, p, h => by
    unfold plainP at p
    obtain ⟨ds, rfl, r⟩ := h.tupL
    exact Rep.tupI (Reps.plain vs ds p r)
  | .lst _, _, p, _ => by unfold plainP at p; cases p
  | .dct _, _, p, _ => by unfold plainP at p; cases p
  | .dcx _, _, p, _ => by unfold plainP at p; cases p
  | .deck, _, p, _ => by unfold plainP at p; cases p
theorem Reps.plain : ∀ (vs : List PV) (ds : List D), plainPs vs = true → Reps p0 F S vs ds → Reps p0 F' S' vs ds
  | [], _, _, h => by unfold Reps at h ⊢; exact h
  | v :: vs, _, p, h => by
    unfold plainPs at p
    rw [Bool.and_eq_true] at p
    obtain ⟨d, r, rfl, h1, h2⟩ := h.un
    exact Reps.cons (Rep.plain v d p.1 h1) (Reps.plain vs r p.2 h2)
end
theorem view_core {As : Nat → List Nat} {F1 : Pl} {i : Nat} (up : ∀ n, F n → (F n ∨ n ∈ As i)) (g : Good p0 F S t) (x : Ex p0 (fun k => F k ∨ k ∈ As i) S F1 S') {t' : Int} (g' : Good p0 F1 S' t') : Ex p0 F S F S' ∧ Good p0 F S' t' :=
  ⟨⟨x.len, x.same, fun _ h => h, fun _ _ h => h⟩, ⟨fun n h => Nat.lt_of_lt_of_le (g.lt n h) x.len, g.np, g'.dk⟩⟩
def pView (i : Nat) (pm : PE) : PE := fun π t P _ => pm (frz π i) t (fun v t1 => plainP v = true ∧ P v t1) noE
theorem sim_view (i : Nat) {m : ME} {pm : PE} (hm : SimE m pm) : SimE m (pView i pm) := by
  intro p0 F S b ρ π t P E re g h
  obtain ⟨As, re⟩ := re
  obtain ⟨kp, g1, Bs, re1⟩ := frz_keep re g i
  refine (hm _ _ _ _ _ _ _ _ _ ⟨Bs, re1⟩ g1 h).mono ?_ fun _ _ z => (noE_off z).elim
  rintro a S1 ⟨F1, v, t1, x1, g2, r1, pl, h1⟩
  obtain ⟨x2, g3⟩ := view_core (fun n hn => .inl hn) g x1 g2
  exact ⟨F, v, t1, x2, g3, r1.plain _ _ pl, h1⟩
def pViewT (i : Nat) (pm : PT) : PT := fun π t P _ => pm (frz π i) t P noE
theorem sim_viewT (i : Nat) {m : MT} {pm : PT} (hm : SimT m pm) : SimT m (pViewT i pm) := by
  intro p0 F S b ρ π t P E re g h
  obtain ⟨As, re⟩ := re
  obtain ⟨kp, g1, Bs, re1⟩ := frz_keep re g i
  refine (hm _ _ _ _ _ _ _ _ _ ⟨Bs, re1⟩ g1 h).mono ?_ fun _ _ z => (noE_off z).elim
  rintro a S1 ⟨F1, v, t1, x1, g2, r1, h1⟩
  obtain ⟨x2, g3⟩ := view_core (fun n hn => .inl hn) g x1 g2
  exact ⟨F, v, t1, x2, g3, r1, h1⟩
/-! ### lists of lists of a name's own -/
def ownsW (bnd : PBnd) (e : PE) (π : PEnv) : List (List PV) → List PV → W (List (List PV))
  | acc, [] => fun t P _ => P acc t
  | acc, x :: xs => fun t P E => ∃ π1, bnd x π = some π1 ∧ e π1 t (fun v t1 => match v with
    | .lst vs => acc.length < sizeLine ∧ ownsW bnd e π (acc ++ [vs]) xs t1 P E
    | _ => False) noE
def psOwns (i : Nat) (mi : PI) (bnd : PBnd) (vs : List Nat) (e : PE) : PSt := fun π t Q => mi π t (fun items t1 => ownsW bnd e (wipeP π vs) [] items t1 (fun vss t2 => Q.nx (π.set i (.obj (.lsts vss))) t2) noE) fun y t1 => Q.ex y π t1
theorem OwnLs.snoc : ∀ {ns : List Nat} {vss : List (List PV)} {n : Nat} {vs : List PV} {ds : List D}, OwnLs p0 F S ns vss → S[n]? = some (.lst ds) → Reps p0 F S vs ds → OwnLs p0 F S (ns ++ [n]) (vss ++ [vs])
  | [], [], _, _, ds, _, c, r => ⟨⟨ds, c, r⟩, trivial⟩
  | _ :: _, _ :: _, _, _, _, ⟨h1, h2⟩, c, r => ⟨h1, OwnLs.snoc h2 c r⟩
  | [], _ :: _, _, _, _, h, _, _ => h.elim
  | _ :: _, [], _, _, _, h, _, _ => h.elim
theorem OwnLs.len : ∀ {ns : List Nat} {vss : List (List PV)}, OwnLs p0 F S ns vss → ns.length = vss.length
  | [], [], _ => rfl
  | _ :: _, _ :: _, ⟨_, h⟩ => by rw [List.length_cons, List.length_cons, h.len]
  | [], _ :: _, h => h.elim
  | _ :: _, [], h => h.elim
open Classical in
theorem sim_ownsT {chk : Store → Prop} {bnd : Bnd} {pb : PBnd} {e : ME} {pe : PE} (hb : SimB bnd pb) (he : SimN e pe)
    {p0 : Nat} {F1 : Pl} {S1 : Store} {t1 : Int} {b : Nat} {π : PEnv} {ρ : RL.Env} (g1 : Good p0 F1 S1 t1) (re1 : REnv p0 F1 S1 b π ρ) (ck : ∀ F' S', Keep F1 S1 F' S' → chk S') {P : List (List PV) → Int → Prop} {E' : Exn → Store → Prop} :
    ∀ (xs : List PV) (ds : List D) (vacc : List (List PV)) (ns : List Nat) (F : Pl) (S : Store) (t : Int), Reps p0 F1 S1 xs ds → Ex p0 F1 S1 F S → Good p0 F S t → S[S1.length]? = some (.lst (ns.map D.ptr)) → ¬ F S1.length → OwnLs p0 F S ns vacc → (S1.length :: ns).Nodup → (∀ n ∈ ns, S1.length ≤ n ∧ ¬ F n ∧ n < S.length) →
      ownsW pb pe π vacc xs t P noE → RO (compT chk bnd tYesM e S1.length ρ ds S) (fun _ S' => ∃ F' vss t' ns', Ex p0 F1 S1 F' S' ∧ Good p0 F' S' t' ∧ ¬ F' S1.length ∧ S'[S1.length]? = some (.lst (ns'.map D.ptr)) ∧ OwnLs p0 F' S' ns' vss ∧ (S1.length :: ns').Nodup ∧ (∀ n ∈ ns', S1.length ≤ n ∧ ¬ F' n ∧ n < S'.length) ∧ P vss t') E'
  | [], ds, vacc, ns, F, S, t, rx, x, g, hn, nf, ra, nd, hns, h => by
    unfold Reps at rx; subst rx
    unfold compT
    exact ⟨F, vacc, t, ns, x, g, nf, hn, ra, nd, hns, h⟩
  | v :: xs, ds, vacc, ns, F, S, t, rx, x, g, hn, nf, ra, nd, hns, h => by
    obtain ⟨d, ds', rfl, r1, r2⟩ := rx.un
    have hn0 : S1.length ≠ p0 := fun z => by have := g1.p0lt; omega
    have hl : S1.length < S.length := lt_of_get hn
    unfold ownsW at h
    obtain ⟨π1, eb, h⟩ := h
    obtain ⟨ρ1, eb2, re2⟩ := hb _ _ _ _ _ _ _ _ _ (r1.mono (x.keep g1)) (re1.ex x g1) eb
    unfold compT
    rw [eb2]
    simp only [tYesM, RL.noExn, Res.bind, if_true]
    have z := he _ _ _ _ _ _ _ _ _ re2 g h
    have z2 := (RO.noExn (E' := E') z fun _ _ => noE_off)
    refine RO.bind (z2.mono ?_ fun _ _ z => z)
    rintro y S3 ⟨F3, n, vs, das, t3, rfl, x3, g3, hn3, nf3, hc3, r3, h3⟩
    have xx3 := x.trans x3
    have hm3 : S3[S1.length]? = some (.lst (ns.map D.ptr)) := by rw [x3.same _ hl hn0]; exact hn
    have mf3 : ¬ F3 S1.length := fun z => nf (x3.old _ hl z)
    have kp : Keep F3 S3 F3 (S3.set S1.length (.lst ((ns ++ [n]).map D.ptr))) := fun m hm => ⟨hm, List.getElem?_set_ne fun z => mf3 (by rw [z]; exact hm)⟩
    have hnl : n < S3.length := lt_of_get hc3
    have same : ∀ m, m ≠ S1.length → (S3.set S1.length (.lst ((ns ++ [n]).map D.ptr)))[m]? = S3[m]? := fun m hm => List.getElem?_set_ne fun z => hm z.symm
    have xx4 : Ex p0 F1 S1 F3 (S3.set S1.length (.lst ((ns ++ [n]).map D.ptr))) :=
      ⟨by rw [List.length_set]; exact xx3.len, fun m hm hp => by rw [same m (by omega)]; exact xx3.same m hm hp, xx3.up, xx3.old⟩
    have g4 : Good p0 F3 (S3.set S1.length (.lst ((ns ++ [n]).map D.ptr))) t3 := by
      refine ⟨fun m hm => by rw [List.length_set]; exact g3.lt m hm, g3.np, ?_⟩
      obtain ⟨a, b', c', hd, rr⟩ := g3.dk
      exact ⟨a, b', c', by rw [same p0 fun z => hn0 z.symm]; exact hd, rr⟩
    rw [hm3]
    have e1 : ns.map D.ptr ++ [D.ptr n] = (ns ++ [n]).map D.ptr := by rw [List.map_append]; rfl
    simp only [e1]
    have hne : ∀ m ∈ ns, m ≠ S1.length := fun m hm z => (List.nodup_cons.mp nd).1 (by rw [← z]; exact hm)
    have la := ra.len
    rw [if_pos ⟨by rw [List.length_map]; omega, ck F3 _ (xx4.keep g1)⟩]
    refine sim_ownsT hb he g1 re1 ck xs ds' (vacc ++ [vs]) (ns ++ [n]) F3 _ t3 r2 xx4 g4 (by rw [List.getElem?_set_self (lt_of_get hm3)]) mf3 ?_ ?_ ?_ h3.2
    · refine OwnLs.snoc (ds := das) ?_ (by rw [same n (by omega)]; exact hc3) (r3.mono kp)
      exact ra.mono ((x3.keep g).trans kp) fun m hm => by rw [same m (hne m hm)]; exact x3.same m (hns m hm).2.2 fun z => by have := (hns m hm).1; have := g1.p0lt; omega
    · rw [← List.cons_append]
      refine List.nodup_append.mpr ⟨nd, by simp, fun a ha b hb2 => ?_⟩
      rw [List.mem_singleton.mp hb2]
      rcases List.mem_cons.mp ha with rfl | ha
      · omega
      · have := (hns a ha).2.2; omega
    · intro m hm
      rw [List.length_set]
      rcases List.mem_append.mp hm with q | q
      · obtain ⟨q1, q2, q3⟩ := hns m q
        exact ⟨q1, fun z => q2 (x3.old m q3 z), Nat.lt_of_lt_of_le q3 x3.len⟩
      · rw [List.mem_singleton.mp q]; exact ⟨by omega, nf3, hnl⟩
open Classical in
theorem ss_owns (i : Nat) {mi : MI} {pi : PI} {bnd : Bnd} {pb : PBnd} {vs : List Nat} {e : ME} {pe : PE} (hi : SimI mi pi) (hb : SimB bnd pb) (he : SimN e pe) : SimS (sSet i (eComp mi bnd vs tYesM e)) (psOwns i pi pb vs pe) := by
  intro p0 F0 S0 t0 F S ρ π t Q g0 x g re h
  unfold sSet eComp
  have z := hi p0 F S S0.length ρ π t _ _ re g h
  cases hr : mi ρ S with
  | exn y S1 =>
    rw [hr] at z
    obtain ⟨F1, c, t1, x1, g1, r1, k1⟩ := z
    exact ⟨F1, c, π, t1, x.trans x1, x1.keep g, g1, r1, re.ex x1 g, k1⟩
  | bad => rw [hr] at z; exact z
  | ok it S1 =>
    rw [hr] at z
    obtain ⟨F1, xs, t1, x1, g1, r1, h1⟩ := z
    have re1 := re.ex x1 g
    have k0 : Keep F1 S1 F1 (S1 ++ [.lst []]) := fun n hn => ⟨hn, List.getElem?_append_left (g1.lt n hn)⟩
    simp only [Res.bind]
    rw [if_pos (r1.2 F1 _ k0)]
    have zz := sim_ownsT (chk := it.chk) (E' := fun _ _ => False) hb he g1 (re1.wipe vs) r1.2 xs it.items [] [] F1 (S1 ++ [.lst []]) t1 r1.1 (Ex.raw _) (g1.raw _) (get_last _ _) (fun z => by have := g1.lt _ z; omega) trivial (by simp) (fun _ z => by cases z) h1
    cases hc : compT it.chk bnd tYesM e S1.length (wipeE ρ vs) it.items (S1 ++ [.lst []]) with
    | exn y S2 => rw [hc] at zz; exact zz.elim
    | bad => rw [hc] at zz; exact zz.elim
    | ok u S2 =>
      rw [hc] at zz
      obtain ⟨F2, vss, t2, ns, x2, g2, nf, hn, ra, nd, hns, hP⟩ := zz
      obtain ⟨As, re1⟩ := re1
      have hp : ∀ m, S1.length ≤ m → m ≠ p0 := fun m hm z => by have := g1.p0lt; omega
      refine ⟨F2, _, t2, (x.trans x1).trans x2, (x1.keep g).trans (x2.keep g1), g2, ?_, hP⟩
      by_cases hi2 : i < π.length
      · exact ⟨_, re1.put i (.obj (.lsts vss)) (some (.ptr S1.length)) (S1.length :: ns) (x2.keep g1) (fun m hm z => .inl (x2.old m hm z)) (fun j hj m hm => x2.same m (re1.off j m hm).2.2.2.2 (re1.off j m hm).2.2.2.1) x2.len List.length_set (fun j hj => List.getElem?_set_ne fun z => hj z.symm) (fun hl => List.getElem?_set_self hl)
          (fun _ => ⟨S1.length, ns, rfl, rfl, hn, ra⟩) (fun z => absurd hi2 z) (fun w e => by cases e) (fun m hm => by
            have xl := (x.trans x1).len
            rcases List.mem_cons.mp hm with rfl | hm
            · exact ⟨xl, nf, hp _ (Nat.le_refl _), lt_of_get hn⟩
            · obtain ⟨q1, q2, q3⟩ := hns m hm
              exact ⟨by omega, q2, hp m q1, q3⟩) nd fun m hm j hj z => by
            have q0 := (re1.off j m z).2.2.2.2
            rcases List.mem_cons.mp hm with rfl | hm
            · omega
            · have := (hns m hm).1; omega⟩
      · have e1 : π.set i (.obj (.lsts vss)) = π := List.set_eq_of_length_le (by omega)
        have e2 : ρ.set i (some (.ptr S1.length)) = ρ := List.set_eq_of_length_le (by rw [← re1.len]; omega)
        rw [e1, e2]
        exact ⟨As, re1.exA x2 g1⟩
/-- for y in x: y.extend(e), y.append(e) -/
def forAddW (app : Bool) (i j : Nat) (e : PE) (Q : PPs) : List (List PV) → List (List PV) → PEnv → Int → Prop
  | done, [], π, t => Q.nx π t
  | done, vs :: rest, π, t => e (π.set j .no) t (fun v t1 => ∃ ws, addV app v = some ws ∧ vs.length + ws.length ≤ sizeLine ∧ forAddW app i j e Q (done ++ [vs ++ ws]) rest ((π.set j .no).set i (.obj (.lsts (done ++ (vs ++ ws) :: rest)))) t1) fun y t1 => Q.ex y (π.set j .no) t1
def psForAdd (app : Bool) (i j : Nat) (e : PE) : PSt := fun π t Q => ∃ vss, π[i]? = some (.obj (.lsts vss)) ∧ i ≠ j ∧ j < π.length ∧ forAddW app i j e Q [] vss π t
theorem OwnLs.append : ∀ {ns ms : List Nat} {vss wss : List (List PV)}, OwnLs p0 F S ns vss → OwnLs p0 F S ms wss → OwnLs p0 F S (ns ++ ms) (vss ++ wss)
  | [], _, [], _, _, h => h
  | _ :: _, _, _ :: _, _, ⟨h1, h2⟩, h => ⟨h1, OwnLs.append h2 h⟩
  | [], _, _ :: _, _, h, _ => h.elim
  | _ :: _, _, [], _, h, _ => h.elim
theorem OwnLs.split : ∀ {ns ms : List Nat} {vss wss : List (List PV)}, ns.length = vss.length → OwnLs p0 F S (ns ++ ms) (vss ++ wss) → OwnLs p0 F S ns vss ∧ OwnLs p0 F S ms wss
  | [], _, [], _, _, h => ⟨trivial, h⟩
  | _ :: _, _, _ :: _, _, e, ⟨h1, h2⟩ => by
    obtain ⟨a, b⟩ := OwnLs.split (by simpa using e) h2
    exact ⟨⟨h1, a⟩, b⟩
  | [], _, _ :: _, _, e, _ => by simp at e
  | _ :: _, _, [], _, e, _ => by simp at e
open Classical in
theorem sim_forAdd {app : Bool} {i j : Nat} {m : ME} {pm : PE} (hm : SimE m pm) (hij : i ≠ j) (g0 : Good p0 F0 S0 t0) {n : Nat} {all : List Nat} {Q : PPs} :
    ∀ (rest done : List (List PV)) (nsd nsr : List Nat) (F : Pl) (S : Store) (ρ : RL.Env) (π : PEnv) (t : Int) (As : Nat → List Nat), all = nsd ++ nsr → nsd.length = done.length → As i = n :: all → π[i]? = some (.obj (.lsts (done ++ rest))) → j < π.length →
      Ex p0 F0 S0 F S → Good p0 F S t → REnvA As p0 F S S0.length π ρ → ρ[i]? = some (some (.ptr n)) → forAddW app i j pm Q done rest π t →
      ROS p0 F0 S0 F S (RL.forM (fun S => S[n]? = some (.lst (all.map D.ptr))) (gNm j) (sSeq (sDrop (eMtL (fAdd app) (eVar j) (aCons m aNil))) sPass) (nsr.map D.ptr) ρ S) Q
  | [], done, nsd, nsr, F, S, ρ, π, t, As, ea, ed, eA, ei, hj, x, g, re, hr, h => by
    obtain ⟨o, e1, n', ns', rfl, a2, a3, a4⟩ := re.own i _ ei
    rw [eA] at a2
    obtain ⟨rfl, rfl⟩ := List.cons.inj a2
    have := a4.len
    have e0 : nsr = [] := by
      rw [ea, List.length_append, List.append_nil] at this
      exact List.length_eq_zero_iff.mp (by omega)
    subst e0
    unfold RL.forM
    exact ⟨F, π, t, x, Keep.refl, g, ⟨As, re⟩, h⟩
  | vs :: rest, done, nsd, nsr, F, S, ρ, π, t, As, ea, ed, eA, ei, hj, x, g, re, hr, h => by
    obtain ⟨o, e1, n', ns', rfl, a2, a3, a4⟩ := re.own i _ ei
    rw [eA] at a2
    obtain ⟨rfl, rfl⟩ := List.cons.inj a2
    rw [ea] at a4
    obtain ⟨b1, b2⟩ := OwnLs.split ed a4
    cases nsr with
    | nil => exact b2.elim
    | cons k nsr =>
      obtain ⟨⟨ds, ck, rk⟩, b3⟩ := b2
      have hk : k ∈ As i := by rw [eA, ea]; simp
      obtain ⟨Bs, reA, eB⟩ : ∃ Bs, REnvA Bs p0 F S S0.length (π.set j .no) (ρ.set j (some (.ptr k))) ∧ Bs i = As i :=
        ⟨_, re.put j .no (some (.ptr k)) [] Keep.refl (fun _ _ z => .inl z) (fun _ _ _ _ => rfl) (Nat.le_refl _) List.length_set (fun q hq => List.getElem?_set_ne fun z => hq z.symm) (fun hl => List.getElem?_set_self hl) (fun _ => rfl) (fun _ => rfl) (fun w e => by cases e) (fun _ z => by cases z) List.nodup_nil (fun _ z => by cases z), if_neg hij⟩
      unfold forAddW at h
      have z := hm p0 F S S0.length _ _ t _ _ ⟨Bs, reA⟩ g h
      rw [List.map_cons]
      unfold RL.forM
      simp only [gNm, nxOnly]
      have ej : eVar j (ρ.set j (some (.ptr k))) S = .ok (.ptr k) S := by
        unfold eVar; rw [List.getElem?_set_self (by rw [← re.len]; exact hj)]
      unfold sSeq sDrop eMtL
      rw [ej]
      simp only [Res.bind]
      rw [if_pos (by unfold isLst; simp only; rw [ck])]
      unfold aCons aNil
      cases hr2 : m (ρ.set j (some (.ptr k))) S with
      | bad => rw [hr2] at z; exact z.elim
      | exn y S1 =>
        rw [hr2] at z
        obtain ⟨F1, c, t1, x1, g1, r1, k1⟩ := z
        exact ⟨F1, c, _, t1, x.trans x1, x1.keep g, g1, r1, ⟨Bs, reA.exA x1 g⟩, k1⟩
      | ok d S1 =>
        rw [hr2] at z
        obtain ⟨F1, v, t1, x1, g1, r1, ws, ew, hl, h1⟩ := z
        have hkk := re.off i k hk
        have re1 := reA.exA x1 g
        have c1 : S1[k]? = some (.lst ds) := by rw [x1.same k hkk.2.2.2.2 hkk.2.2.2.1]; exact ck
        have rk1 := rk.mono (x1.keep g)
        obtain ⟨es, er, rw'⟩ := add_run r1 ew c1 (by rw [rk1.len]; exact hl)
        simp only [Res.bind]
        rw [er]
        simp only [ofE]
        obtain ⟨kp, g2, sm, hx⟩ := own_cell (c := .lst (ds ++ es)) re1 g1 (i := i) (n := k) (by rw [eB]; exact hk)
        have hnk : n ≠ k := fun z => by
          have := re.nd i
          rw [eA, ea] at this
          exact (List.nodup_cons.mp this).1 (by rw [z]; simp)
        have hnA : n ∈ As i := by rw [eA]; exact List.mem_cons_self
        have cn : (S1.set k (.lst (ds ++ es)))[n]? = some (.lst (all.map D.ptr)) := by
          rw [List.getElem?_set_ne fun z => hnk z.symm, x1.same n (re.off i n hnA).2.2.2.2 (re.off i n hnA).2.2.2.1]; exact a3
        unfold sPass
        simp only
        rw [if_pos cn]
        have ndA := re.nd i
        rw [eA, ea] at ndA
        have ndB := (List.nodup_append.mp (List.nodup_cons.mp ndA).2)
        have sk : ∀ q, q ≠ k → (S1.set k (.lst (ds ++ es)))[q]? = S1[q]? := fun q hq => List.getElem?_set_ne fun z => hq z.symm
        have s1 : ∀ q ∈ As i, S1[q]? = S[q]? := fun q hq => x1.same q (re.off i q hq).2.2.2.2 (re.off i q hq).2.2.2.1
        have m1 : ∀ q ∈ nsd, q ∈ As i := fun q hq => by rw [eA, ea]; simp [hq]
        have m2 : ∀ q ∈ nsr, q ∈ As i := fun q hq => by rw [eA, ea]; simp [hq]
        have kk := (x1.keep g).trans kp
        have own' : OwnLs p0 F1 (S1.set k (.lst (ds ++ es))) all (done ++ (vs ++ ws) :: rest) := by
          rw [ea]
          refine OwnLs.append (b1.mono kk fun q hq => ?_) ⟨⟨ds ++ es, List.getElem?_set_self (lt_of_get c1), (rk1.append rw').mono kp⟩, b3.mono kk fun q hq => ?_⟩
          · rw [sk q fun z => ndB.2.2 q hq k List.mem_cons_self z]; exact s1 q (m1 q hq)
          · rw [sk q fun z => (List.nodup_cons.mp ndB.2.1).1 (by rw [← z]; exact hq)]; exact s1 q (m2 q hq)
        have hi2 : i < (π.set j .no).length := by rw [List.length_set]; exact (List.getElem?_eq_some_iff.mp ei).1
        have hri : (ρ.set j (some (.ptr k)))[i]? = some (some (.ptr n)) := by rw [List.getElem?_set_ne fun z => hij z.symm]; exact hr
        have re3 := re1.put i (.obj (.lsts (done ++ (vs ++ ws) :: rest))) (some (.ptr n)) (n :: all) kp (fun _ _ z => .inl z) sm (by rw [List.length_set]; exact Nat.le_refl _) (ρ' := ρ.set j (some (.ptr k))) rfl (fun _ _ => rfl) (fun _ => hri) (fun _ => ⟨n, all, rfl, rfl, cn, own'⟩) (fun z => absurd hi2 z) (fun w e => by cases e) (fun q hq => by
          rw [← eA, ← eB] at hq
          obtain ⟨_, q1, q2, q3, q4⟩ := re1.off i q hq
          exact ⟨q1, q2, q3, by rw [List.length_set]; exact q4⟩) (by rw [← eA]; exact re.nd i) fun q hq k hk z => by rw [← eA, ← eB] at hq; exact hk (re1.dis k i q z hq)
        refine (sim_forAdd hm hij g0 rest (done ++ [vs ++ ws]) (nsd ++ [k]) nsr F1 _ _ _ t1 _ (by rw [ea]; simp) (by simp [ed]) (by rw [if_pos rfl]) ?_ (by rw [List.length_set, List.length_set]; exact hj) (hx rfl (x.trans x1)) g2 re3 hri h1).lift kk
        rw [List.getElem?_set_self hi2]
        simp
open Classical in
theorem ss_forAdd (app : Bool) (i j : Nat) {m : ME} {pm : PE} (hm : SimE m pm) : SimS (sFor (iAnyM (eVar i)) (gNm j) (sSeq (sDrop (eMtL (fAdd app) (eVar j) (aCons m aNil))) sPass)) (psForAdd app i j pm) := by
  intro p0 F0 S0 t0 F S ρ π t Q g0 x g re h
  obtain ⟨vss, ei, hij, hj, h⟩ := h
  obtain ⟨As, re⟩ := re
  obtain ⟨o, e1, n, ns, rfl, a2, a3, a4⟩ := re.own i _ ei
  have e0 : eVar i ρ S = .ok (.ptr n) S := by unfold eVar; rw [e1]
  unfold sFor iAnyM
  rw [e0]
  simp only [Res.bind, a3, ofE, if_true]
  exact sim_forAdd hm hij g0 vss [] [] ns F S ρ π t As rfl rfl a2 ei hj x g re e1 h
end
end RP

namespace RP
open PySem PySem.Spec PyProof.Rows L2 RL

section
variable {p0 : Nat} {F F' F0 : Pl} {S S' S0 : Store} {t t0 : Int} {α β γ δ : Type}
/-! ### keys -/
mutual
def keyP : PV → Option NestedKey
  | .int i => some (.num i)
  | .tup vs => match keysP vs with
    | some ks => some (.tup ks)
    | none => none
  | _ => none
def keysP : List PV → Option (List NestedKey)
  | [] => some []
  | v :: vs => match keyP v, keysP vs with
    | some k, some ks => some (k :: ks)
    | _, _ => none
end
mutual
theorem keyP_rep : ∀ (v : PV) (d : D) (k : NestedKey), keyP v = some k → Rep p0 F S v d → keyN d = some k
  | .int i, d, k, e, r => by unfold keyP at e; unfold Rep at r; subst r; unfold keyN; exact e
  | .tup vs, d, k, e, r => by
    obtain ⟨ds, rfl, r'⟩ := r.tupL
    unfold keyP at e
    cases h : keysP vs with
    | none => rw [h] at e; cases e
    | some ks =>
      rw [h] at e
      unfold keyN
      rw [keysP_rep vs ds ks h r']
      exact e
  | .non, _, _, e, _ => by unfold keyP at e; cases e
  | .bl _, _, _, e, _ => by unfold keyP at e; cases e
  | .str _, _, _, e, _ => by unfold keyP at e; cases e
  | .lst _, _, _, e, _ => by unfold keyP at e; cases e
  | .dct _, _, _, e, _ => by unfold keyP at e; cases e
  | .dcx _, _, _, e, _ => by unfold keyP at e; cases e
  | .deck, _, _, e, _ => by unfold keyP at e; cases e
theorem keysP_rep : ∀ (vs : List PV) (ds : List D) (ks : List NestedKey), keysP vs = some ks → Reps p0 F S vs ds → keysN ds = some ks
  | [], ds, ks, e, r => by unfold Reps at r; subst r; unfold keysP at e; unfold keysN; exact e
  | v :: vs, _, ks, e, r => by
    obtain ⟨d, ds, rfl, r1, r2⟩ := r.un
    unfold keysP at e
    cases h1 : keyP v with
    | none => rw [h1] at e; cases e
    | some k =>
      cases h2 : keysP vs with
      | none => rw [h1, h2] at e; cases e
      | some ks' =>
        rw [h1, h2] at e
        unfold keysN
        rw [keyP_rep v d k h1 r1, keysP_rep vs ds ks' h2 r2]
        exact e
end
/-! ### a dict of lists of a name's own -/
theorem OwnD.cases {P : Prop} {ns : List Nat} {kvs : List (NestedKey × List PV)} {ds : List (NestedKey × D)} (h : OwnD p0 F S ns kvs ds) (h0 : ns = [] → kvs = [] → ds = [] → P)
    (h1 : ∀ n ns' k vs kvs' ds' xs, ns = n :: ns' → kvs = (k, vs) :: kvs' → ds = (k, .ptr n) :: ds' → S[n]? = some (.lst xs) → Reps p0 F S vs xs → OwnD p0 F S ns' kvs' ds' → P) : P := by
  match ns, kvs, ds, h with
  | [], [], [], _ => exact h0 rfl rfl rfl
  | n :: ns, (k, vs) :: kvs, (k', d) :: ds, ⟨e1, e2, ⟨xs, e, r⟩, h2⟩ =>
    subst e1 e2
    exact h1 n ns _ vs kvs ds xs rfl rfl rfl e r h2
theorem OwnD.keys : ∀ {ns : List Nat} {kvs : List (NestedKey × List PV)} {ds : List (NestedKey × D)}, OwnD p0 F S ns kvs ds → ds.map (·.1) = kvs.map (·.1)
  | ns, [], ds, h => h.cases (fun _ _ e => by rw [e]; rfl) fun _ _ _ _ _ _ _ _ e => by cases e
  | ns, kv :: kvs, ds, h => h.cases (fun _ e => by cases e) fun _ _ _ _ _ _ _ _ e1 e2 _ _ h2 => by
    cases e1; subst e2
    rw [List.map_cons, List.map_cons, h2.keys]
theorem compat_keys {α β : Type} {a : List (NestedKey × α)} {b : List (NestedKey × β)} (h : a.map (·.1) = b.map (·.1)) (k : NestedKey) : compat a k = compat b k := by
  have e : ∀ {γ : Type} (l : List (NestedKey × γ)), compat l k = (l.map (·.1)).all fun j => isTupK j == isTupK k := fun l => by
    unfold compat; rw [List.all_map]; rfl
  rw [e, e, h]
theorem look_none {α : Type} {kvs : List (NestedKey × α)} {k : NestedKey} : lookD kvs k = none ↔ k ∉ kvs.map (·.1) := by
  induction kvs with
  | nil => simp [lookD]
  | cons kv kvs ih =>
    rw [lookD_cons]
    by_cases h : kv.1 = k
    · simp [h]
    · rw [if_neg h, ih, List.map_cons, List.mem_cons]
      exact ⟨fun z q => q.elim (fun e => h e.symm) z, fun z q => z (.inr q)⟩
theorem look_keys {α β : Type} {a : List (NestedKey × α)} {b : List (NestedKey × β)} (h : a.map (·.1) = b.map (·.1)) {k : NestedKey} (e : lookD a k = none) : lookD b k = none := by
  rw [look_none] at e ⊢; rw [← h]; exact e
theorem OwnD.look : ∀ {ns : List Nat} {kvs : List (NestedKey × List PV)} {ds : List (NestedKey × D)} {k : NestedKey} {vs : List PV}, OwnD p0 F S ns kvs ds → lookD kvs k = some vs → ∃ m xs, m ∈ ns ∧ lookD ds k = some (.ptr m) ∧ S[m]? = some (.lst xs) ∧ Reps p0 F S vs xs
  | ns, [], ds, k, vs, h, e => by cases e
  | ns, kv :: kvs, ds, k, vs, h, e => h.cases (fun _ e => by cases e) fun n ns' k0 vs0 kvs' ds' xs e0 e1 e2 c r h2 => by
    cases e1; subst e0 e2
    rw [lookD_cons] at e ⊢
    by_cases hk : k0 = k
    · rw [if_pos hk] at e ⊢
      cases e
      exact ⟨n, xs, List.mem_cons_self, rfl, c, r⟩
    · rw [if_neg hk] at e ⊢
      obtain ⟨m, xs, q1, q2⟩ := h2.look e
      exact ⟨m, xs, List.mem_cons_of_mem _ q1, q2⟩
theorem map_none {α : Type} {kvs : List (NestedKey × α)} {k : NestedKey} {d : α} (h : k ∉ kvs.map (·.1)) : (kvs.map fun kv => if kv.1 = k then (kv.1, d) else kv) = kvs := by
  induction kvs with
  | nil => rfl
  | cons kv kvs ih =>
    rw [List.map_cons, List.mem_cons] at h
    rw [List.map_cons, if_neg fun z => h (.inl z.symm), ih fun z => h (.inr z)]
theorem OwnD.add : ∀ {ns : List Nat} {kvs : List (NestedKey × List PV)} {ds : List (NestedKey × D)} {k : NestedKey} {vs : List PV} {xs : List D} {m : Nat} {v : PV} {d : D}, OwnD p0 F S ns kvs ds → ns.Nodup → (kvs.map (·.1)).Nodup → lookD kvs k = some vs → lookD ds k = some (.ptr m) →
    S[m]? = some (.lst xs) → Keep F S F S' → (∀ q, q ≠ m → S'[q]? = S[q]?) → S'[m]? = some (.lst (xs ++ [d])) → Rep p0 F S' v d → OwnD p0 F S' ns (kvs.map fun kv => if kv.1 = k then (kv.1, vs ++ [v]) else kv) ds
  | ns, [], ds, k, vs, xs, m, v, d, h, _, _, e, _, _, _, _, _, _ => by cases e
  | ns, kv :: kvs, ds, k, vs, xs, m, v, d, h, nd, nk, e, em, cm, kp, sm, cm', rd => h.cases (fun _ e => by cases e) fun n ns' k0 vs0 kvs' ds' xs0 e0 e1 e2 c r h2 => by
    cases e1; subst e0 e2
    rw [lookD_cons] at e em
    rw [List.map_cons] at nk ⊢
    by_cases hk : k0 = k
    · rw [if_pos hk] at e em
      cases e; cases em
      rw [if_pos hk, map_none (by rw [← hk]; exact (List.nodup_cons.mp nk).1)]
      rw [c] at cm; cases cm
      exact ⟨rfl, rfl, ⟨_, cm', (r.mono kp).append (Reps.cons rd Reps.nil)⟩, h2.mono kp fun q hq => sm q fun z => (List.nodup_cons.mp nd).1 (by rw [← z]; exact hq)⟩
    · rw [if_neg hk] at e em
      obtain ⟨m', xs', q1, q2, _⟩ := h2.look e
      rw [em] at q2; cases q2
      rw [if_neg hk]
      exact ⟨rfl, rfl, ⟨xs0, by rw [sm n fun z => (List.nodup_cons.mp nd).1 (by rw [z]; exact q1)]; exact c, r.mono kp⟩, h2.add (List.nodup_cons.mp nd).2 (List.nodup_cons.mp nk).2 e em cm kp sm cm' rd⟩
theorem OwnD.snoc : ∀ {ns : List Nat} {kvs : List (NestedKey × List PV)} {ds : List (NestedKey × D)} {k : NestedKey} {vs : List PV} {xs : List D} {m : Nat}, OwnD p0 F S ns kvs ds → S[m]? = some (.lst xs) → Reps p0 F S vs xs → OwnD p0 F S (ns ++ [m]) (kvs ++ [(k, vs)]) (ds ++ [(k, .ptr m)])
  | ns, [], ds, k, vs, xs, m, h, c, r => h.cases (fun e0 _ e2 => by subst e0 e2; exact ⟨rfl, rfl, ⟨xs, c, r⟩, trivial⟩) fun _ _ _ _ _ _ _ _ e => by cases e
  | ns, kv :: kvs, ds, k, vs, xs, m, h, c, r => h.cases (fun _ e => by cases e) fun n ns' k0 vs0 kvs' ds' xs0 e0 e1 e2 c0 r0 h2 => by
    cases e1; subst e0 e2
    exact ⟨rfl, rfl, ⟨xs0, c0, r0⟩, h2.snoc c r⟩
theorem OwnD.rep : ∀ {ns : List Nat} {kvs : List (NestedKey × List PV)} {ds : List (NestedKey × D)}, OwnD p0 F S ns kvs ds → (∀ n ∈ ns, F n) → RepN p0 F S (kvs.map fun kv => (kv.1, PV.lst kv.2)) ds
  | ns, [], ds, h, _ => h.cases (fun _ _ e2 => by subst e2; unfold RepN; rfl) fun _ _ _ _ _ _ _ _ e => by cases e
  | ns, kv :: kvs, ds, h, hf => h.cases (fun _ e => by cases e) fun n ns' k0 vs0 kvs' ds' xs0 e0 e1 e2 c0 r0 h2 => by
    cases e1; subst e0 e2
    rw [List.map_cons]
    unfold RepN
    refine ⟨_, _, rfl, ?_, h2.rep fun m hm => hf m (List.mem_cons_of_mem _ hm)⟩
    unfold Rep
    exact ⟨n, xs0, rfl, hf n List.mem_cons_self, c0, r0⟩
theorem RepN.vals : ∀ {kvs : List (NestedKey × PV)} {ds : List (NestedKey × D)}, RepN p0 F S kvs ds → Reps p0 F S (kvs.map (·.2)) (ds.map (·.2))
  | [], _, h => by unfold RepN at h; subst h; exact Reps.nil
  | (k, v) :: kvs, _, h => by
    unfold RepN at h
    obtain ⟨d, r, rfl, h1, h2⟩ := h
    exact Reps.cons h1 (RepN.vals h2)
/-! x = {} -/
def psDict0 (i : Nat) : PSt := fun π t Q => Q.nx (π.set i (.obj (.dl []))) t
theorem ss_dict0 (i : Nat) : SimS (sSet i eDictN) (psDict0 i) := by
  intro p0 F0 S0 t0 F S ρ π t Q g0 x g re h
  obtain ⟨As, re⟩ := re
  have x1 : Ex p0 F S F (S ++ [.dcx []]) := Ex.raw _
  have g1 := g.raw (.dcx [])
  refine ⟨F, _, t, x.trans x1, x1.keep g, g1, ?_, h⟩
  by_cases hi : i < π.length
  · exact ⟨_, re.put i (.obj (.dl [])) (some (.ptr S.length)) [S.length] (x1.keep g) (fun _ _ z => .inl z) (fun j hj m hm => x1.same m (re.off j m hm).2.2.2.2 (re.off j m hm).2.2.2.1) x1.len List.length_set (fun j hj => List.getElem?_set_ne fun z => hj z.symm) (fun hl => List.getElem?_set_self hl)
      (fun _ => ⟨S.length, [], [], rfl, rfl, get_last _ _, trivial, List.nodup_nil⟩) (fun z => absurd hi z) (fun w e => by cases e) (fun m hm => by
        rw [List.mem_singleton.mp hm]
        exact ⟨x.len, fun z => by have := g.lt _ z; omega, fun z => by have := g.p0lt; omega, by simp⟩) (by simp) fun m hm j hj z => by rw [List.mem_singleton.mp hm] at z; have := (re.off j _ z).2.2.2.2; omega⟩
  · have e1 : π.set i (.obj (.dl [])) = π := List.set_eq_of_length_le (by omega)
    have e2 : ρ.set i (some (.ptr S.length)) = ρ := List.set_eq_of_length_le (by rw [← re.len]; omega)
    rw [e1, e2]
    exact ⟨As, re.exA x1 g⟩
/-! x.setdefault(k, []).append(e) -/
def addD (kvs : List (NestedKey × List PV)) (k : NestedKey) (v : PV) : List (NestedKey × List PV) := putD kvs k ((lookD kvs k).getD [] ++ [v])
def psSetd (i : Nat) (pk pm : PE) : PSt := fun π t Q => ∃ kvs, π[i]? = some (.obj (.dl kvs)) ∧ pk π t (fun kv t1 => ∃ k, keyP kv = some k ∧ compat kvs k = true ∧ k.depth ≤ 8 ∧ kvs.length < sizeLine ∧
  pm (π.set i (.obj (.dl (if (lookD kvs k).isSome then kvs else kvs ++ [(k, [])])))) t1 (fun v t2 => ((lookD kvs k).getD []).length < sizeLine ∧ Q.nx (π.set i (.obj (.dl (addD kvs k v)))) t2) noE) fun y t1 => Q.ex y π t1
theorem dl_app {As : Nat → List Nat} {b i n m : Nat} {π : PEnv} {ρ : RL.Env} {kvs : List (NestedKey × List PV)} {k : NestedKey} {vs : List PV} {v : PV} {d : D} {ds : List (NestedKey × D)} (re : REnvA As p0 F S b π ρ) (g : Good p0 F S t) (hu : π[i]? = some (.obj (.dl kvs))) (hk : lookD kvs k = some vs)
    (hb : b = S0.length) (x : Ex p0 F0 S0 F S) (hn : ρ[i]? = some (some (.ptr n))) (hS : S[n]? = some (.dcx ds)) (hm : lookD ds k = some (.ptr m)) (rd : Rep p0 F S v d) (hl : vs.length < sizeLine) :
    ∃ S1, fAppend (.ptr m) [d] S = .ok .non S1 ∧ Good p0 F S1 t ∧ Keep F S F S1 ∧ REnv p0 F S1 b (π.set i (.obj (.dl (kvs.map fun kv => if kv.1 = k then (kv.1, vs ++ [v]) else kv)))) ρ ∧ Ex p0 F0 S0 F S1 := by
  obtain ⟨o, c1, n', ns, ds', rfl, c2, c3, c4, c5⟩ := re.own i _ hu
  rw [hn] at c1; cases c1
  rw [hS] at c3; cases c3
  obtain ⟨m', xs, q1, q2, q3, q4⟩ := c4.look hk
  rw [hm] at q2; cases q2
  have hmA : m ∈ As i := by rw [c2]; exact List.mem_cons_of_mem _ q1
  obtain ⟨kp, g', sm, hx⟩ := own_cell (c := .lst (xs ++ [d])) re g hmA
  have nd := re.nd i
  rw [c2] at nd
  have hnm : n ≠ m := fun z => (List.nodup_cons.mp nd).1 (by rw [z]; exact q1)
  have sq : ∀ q, q ≠ m → (S.set m (.lst (xs ++ [d])))[q]? = S[q]? := fun q hq => List.getElem?_set_ne fun z => hq z.symm
  refine ⟨S.set m (.lst (xs ++ [d])), ?_, g', kp, ⟨_, re.put i _ (some (.ptr n)) (n :: ns) kp (fun _ _ z => .inl z) sm (by rw [List.length_set]; exact Nat.le_refl _) rfl (fun _ _ => rfl) (fun _ => hn)
    (fun _ => ⟨n, ns, ds, rfl, rfl, by rw [sq n hnm]; exact hS, c4.add (List.nodup_cons.mp nd).2 c5 hk hm q3 kp sq (List.getElem?_set_self (lt_of_get q3)) (rd.mono kp), ?_⟩) (fun z => absurd (re.off i m hmA).1 z) (fun w e => by cases e) (fun q hq => ?_) nd fun q hq j hj z => ?_⟩, hx hb x⟩
  · unfold fAppend; simp only [q3]
    rw [if_pos (by rw [q4.len]; exact hl)]
  · have : (kvs.map fun kv => if kv.1 = k then (kv.1, vs ++ [v]) else kv).map (·.1) = kvs.map (·.1) := by
      rw [List.map_map]
      refine List.map_congr_left fun kv _ => ?_
      show (if kv.1 = k then (kv.1, vs ++ [v]) else kv).1 = kv.1
      split <;> rfl
    rw [this]; exact c5
  · rw [← c2] at hq
    obtain ⟨_, a, b', c, e⟩ := re.off i q hq
    exact ⟨a, b', c, by rw [List.length_set]; exact e⟩
  · rw [← c2] at hq; exact hj (re.dis j i q z hq)
theorem set_same {l : PEnv} {i : Nat} {s : PSlot} (h : l[i]? = some s) : l.set i s = l := by
  apply List.ext_getElem?
  intro j
  by_cases hj : i = j
  · subst hj
    rw [List.getElem?_set_self (List.getElem?_eq_some_iff.mp h).1, h]
  · rw [List.getElem?_set_ne hj]
theorem ss_setd (i : Nat) {mk m : ME} {pk pm : PE} (hk : SimE mk pk) (hm : SimE m pm) : SimS (sDrop (eMtL fAppend (eDt2 fSetd (eVar i) mk (eLst aNil)) (aCons m aNil))) (psSetd i pk pm) := by
  intro p0 F0 S0 t0 F S ρ π t Q g0 x g re h0
  obtain ⟨kvs, hu, h⟩ := h0
  obtain ⟨As, re⟩ := re
  obtain ⟨o, c1, n, ns, ds, rfl, c2, c3, c4, c5⟩ := re.own i _ hu
  have z := hk p0 F S S0.length ρ π t _ _ ⟨As, re⟩ g h
  have e0 : eVar i ρ S = .ok (.ptr n) S := by unfold eVar; rw [c1]
  unfold sDrop eMtL eDt2
  rw [e0]
  simp only [Res.bind]
  rw [if_pos (by unfold isDcx; simp only; rw [c3])]
  cases hr : mk ρ S with
  | bad => rw [hr] at z; exact z
  | exn y S1 =>
    rw [hr] at z
    obtain ⟨F1, c, t1, x1, g1, r1, k1⟩ := z
    exact ⟨F1, c, π, t1, x.trans x1, x1.keep g, g1, r1, ⟨As, re.exA x1 g⟩, k1⟩
  | ok dk S1 =>
    rw [hr] at z
    obtain ⟨F1, kv, t1, x1, g1, r1, ky, ek, hc, hd, hl, h1⟩ := z
    have re1 := re.exA x1 g
    have hn : n ∈ As i := by rw [c2]; exact List.mem_cons_self
    have hsame : ∀ q ∈ As i, S1[q]? = S[q]? := fun q hq => x1.same q (re.off i q hq).2.2.2.2 (re.off i q hq).2.2.2.1
    have kn := keyP_rep _ _ _ ek r1
    have x2 : Ex p0 F1 S1 F1 (S1 ++ [.lst []]) := Ex.raw _
    have g2 := g1.raw (.lst [])
    have re2 := re1.exA x2 g1
    have hn1 : n < S1.length := Nat.lt_of_lt_of_le (re.off i n hn).2.2.2.2 x1.len
    have d2 : (S1 ++ [Cell.lst []])[n]? = some (.dcx ds) := by rw [List.getElem?_append_left hn1, hsame n hn]; exact c3
    have o4 : OwnD p0 F1 (S1 ++ [.lst []]) ns kvs ds := c4.mono ((x1.trans x2).keep g) fun q hq => by
      have hq' : q ∈ As i := by rw [c2]; exact List.mem_cons_of_mem _ hq
      rw [List.getElem?_append_left (Nat.lt_of_lt_of_le (re.off i q hq').2.2.2.2 x1.len), hsame q hq']
    have e1 : eLst aNil ρ S1 = .ok (.ptr S1.length) (S1 ++ [.lst []]) := by
      unfold eLst aNil; simp only [Res.bind]
      rw [if_pos (by show 0 ≤ sizeLine; exact Nat.zero_le _)]
    simp only [Res.bind]
    rw [e1]
    simp only [fSetd, kn, d2]
    have kk := o4.keys
    have lend : ds.length = kvs.length := by have := congrArg List.length kk; simpa using this
    rw [if_pos ⟨by rw [compat_keys kk]; exact hc, hd, by rw [lend]; exact hl⟩]
    cases hlk : lookD kvs ky with
    | some vs =>
      rw [hlk] at h1
      simp only [Option.isSome_some, if_true, Option.getD_some] at h1
      rw [set_same hu] at h1
      obtain ⟨mm, xs, q1, q2, q3, q4⟩ := o4.look hlk
      rw [q2]
      simp only
      rw [if_pos (by unfold isLst; simp only; rw [q3])]
      unfold aCons aNil
      have z2 := hm p0 F1 _ S0.length ρ π t1 _ _ ⟨As, re2⟩ g2 h1
      cases hr2 : m ρ (S1 ++ [.lst []]) with
      | bad => rw [hr2] at z2; exact z2
      | exn y S3 => rw [hr2] at z2; exact (noE_off z2).elim
      | ok d S3 =>
        rw [hr2] at z2
        obtain ⟨F3, v, t3, x3, g3, r3, hlen, hQ⟩ := z2
        have re3 := re2.exA x3 g2
        simp only [Res.bind]
        have d3 : S3[n]? = some (.dcx ds) := by rw [x3.same n (lt_of_get d2) (re.off i n hn).2.2.2.1]; exact d2
        obtain ⟨S4, f1, g4, kp, re4, xe⟩ := dl_app (v := v) (d := d) re3 g3 hu hlk rfl (((x.trans x1).trans x2).trans x3) c1 d3 q2 r3 hlen
        rw [f1]
        refine ⟨F3, _, t3, xe, (((x1.trans x2).trans x3).keep g).trans kp, g4, re4, ?_⟩
        have ea : addD kvs ky v = kvs.map fun kv => if kv.1 = ky then (kv.1, vs ++ [v]) else kv := by
          unfold addD putD; rw [hlk]; rfl
        rw [ea] at hQ
        exact hQ
    | none =>
      rw [hlk] at h1
      simp only [Option.isSome_none, Bool.false_eq_true, if_false, Option.getD_none] at h1
      have lkd : lookD ds ky = none := look_keys kk.symm hlk
      rw [lkd]
      simp only
      have ep : putD ds ky (D.ptr S1.length) = ds ++ [(ky, .ptr S1.length)] := by unfold putD; rw [lkd]; rfl
      rw [ep]
      obtain ⟨kp, g3, sm, hx⟩ := own_cell (c := .dcx (ds ++ [(ky, .ptr S1.length)])) re2 g2 hn
      have hnL : n ≠ S1.length := by omega
      have cL : ((S1 ++ [Cell.lst []]).set n (.dcx (ds ++ [(ky, .ptr S1.length)])))[S1.length]? = some (.lst []) := by
        rw [List.getElem?_set_ne hnL]; exact get_last _ _
      rw [if_pos (by unfold isLst; simp only; rw [cL])]
      unfold aCons aNil
      have hi : i < π.length := (re.off i n hn).1
      have nd := re.nd i
      rw [c2] at nd
      have ndk : ((kvs ++ [(ky, ([] : List PV))]).map (·.1)).Nodup := by
        rw [List.map_append]
        refine List.nodup_append.mpr ⟨c5, by simp, fun a ha b hb => ?_⟩
        have hb' : b = ky := by simpa using hb
        rw [hb']
        exact fun z => look_none.mp hlk (by rw [← z]; exact ha)
      have ndn : (n :: (ns ++ [S1.length])).Nodup := by
        rw [← List.cons_append]
        refine List.nodup_append.mpr ⟨nd, by simp, fun a ha b hb => ?_⟩
        rw [List.mem_singleton.mp hb]
        rw [← c2] at ha
        have := Nat.lt_of_lt_of_le (re.off i a ha).2.2.2.2 x1.len
        omega
      have od : OwnD p0 F1 ((S1 ++ [Cell.lst []]).set n (.dcx (ds ++ [(ky, .ptr S1.length)]))) (ns ++ [S1.length]) (kvs ++ [(ky, [])]) (ds ++ [(ky, .ptr S1.length)]) := by
        refine (o4.mono kp fun q hq => List.getElem?_set_ne fun z => ?_).snoc cL Reps.nil
        exact (List.nodup_cons.mp nd).1 (by rw [z]; exact hq)
      have re3 := re2.put i (.obj (.dl (kvs ++ [(ky, [])]))) (some (.ptr n)) (n :: (ns ++ [S1.length])) kp (fun _ _ z => .inl z) sm (by rw [List.length_set]; exact Nat.le_refl _) (ρ' := ρ) rfl (fun _ _ => rfl) (fun _ => c1)
        (fun _ => ⟨n, ns ++ [S1.length], _, rfl, rfl, List.getElem?_set_self (lt_of_get d2), od, ndk⟩) (fun z => absurd hi z) (fun w e => by cases e) (fun q hq => by
          rw [← List.cons_append] at hq
          rcases List.mem_append.mp hq with q0 | q0
          · rw [← c2] at q0
            obtain ⟨_, a, b', c, e⟩ := re2.off i q q0
            exact ⟨a, b', c, by rw [List.length_set]; exact e⟩
          · rw [List.mem_singleton.mp q0]
            refine ⟨(x.trans x1).len, fun z => by have := g1.lt _ z; omega, fun z => by have := g1.p0lt; omega, lt_of_get cL⟩) ndn fun q hq j hj z => by
          rw [← List.cons_append] at hq
          rcases List.mem_append.mp hq with q0 | q0
          · rw [← c2] at q0; exact hj (re.dis j i q z q0)
          · rw [List.mem_singleton.mp q0] at z
            have := (re1.off j _ z).2.2.2.2; omega
      have z2 := hm p0 F1 _ S0.length ρ _ t1 _ _ ⟨_, re3⟩ g3 h1
      cases hr2 : m ρ ((S1 ++ [Cell.lst []]).set n (.dcx (ds ++ [(ky, .ptr S1.length)]))) with
      | bad => rw [hr2] at z2; exact z2
      | exn y S3 => rw [hr2] at z2; exact (noE_off z2).elim
      | ok d S3 =>
        rw [hr2] at z2
        obtain ⟨F3, v, t3, x3, g4, r3, hlen, hQ⟩ := z2
        have re4 := re3.exA x3 g3
        simp only [Res.bind]
        have hu3 : (π.set i (.obj (.dl (kvs ++ [(ky, [])]))))[i]? = some (.obj (.dl (kvs ++ [(ky, [])]))) := List.getElem?_set_self hi
        have hlk3 : lookD (kvs ++ [(ky, ([] : List PV))]) ky = some [] := by
          unfold lookD at hlk ⊢
          rw [List.find?_append]
          rw [Option.map_eq_none_iff] at hlk
          rw [hlk]
          simp
        have hlkd : lookD (ds ++ [(ky, D.ptr S1.length)]) ky = some (.ptr S1.length) := by
          unfold lookD at lkd ⊢
          rw [List.find?_append]
          rw [Option.map_eq_none_iff] at lkd
          rw [lkd]
          simp
        have hS3 : S3[n]? = some (.dcx (ds ++ [(ky, .ptr S1.length)])) := by
          rw [x3.same n (by rw [List.length_set]; exact lt_of_get d2) (re.off i n hn).2.2.2.1]
          exact List.getElem?_set_self (lt_of_get d2)
        have xx : Ex p0 F0 S0 F1 ((S1 ++ [Cell.lst []]).set n (.dcx (ds ++ [(ky, .ptr S1.length)]))) := hx rfl ((x.trans x1).trans x2)
        obtain ⟨S4, f1, g5, kp5, re5, xe⟩ := dl_app (v := v) (d := d) re4 g4 hu3 hlk3 rfl (xx.trans x3) c1 hS3 hlkd r3 hlen
        rw [f1]
        refine ⟨F3, _, t3, xe, ((((x1.trans x2).keep g).trans kp).trans (x3.keep g3)).trans kp5, g5, re5, ?_⟩
        have ea : addD kvs ky v = (kvs ++ [(ky, ([] : List PV))]).map fun kv => if kv.1 = ky then (kv.1, [] ++ [v]) else kv := by
          unfold addD putD
          rw [hlk]
          show kvs ++ [(ky, [v])] = _
          rw [List.map_append, map_none (look_none.mp hlk)]
          simp
        rw [List.set_set]
        rw [ea] at hQ
        exact hQ
/-! an expression that looks at it -/
def pLook (i : Nat) (pm : PE) : PE := fun π t P _ => ∃ kvs, π[i]? = some (.obj (.dl kvs)) ∧ pm (π.set i (.val (.dcx (kvs.map fun kv => (kv.1, .lst kv.2))))) t (fun v t1 => plainP v = true ∧ P v t1) noE
theorem sim_look (i : Nat) {m : ME} {pm : PE} (hm : SimE m pm) : SimE (eLockM i m) (pLook i pm) := by
  intro p0 F S b ρ π t P E re g h
  obtain ⟨kvs, hu, h⟩ := h
  obtain ⟨As, re⟩ := re
  obtain ⟨o, c1, n, ns, ds, rfl, c2, c3, c4, c5⟩ := re.own i _ hu
  have hn : n ∈ As i := by rw [c2]; exact List.mem_cons_self
  obtain ⟨hi, hb, nf, np, hl⟩ := re.off i n hn
  have nd := re.nd i
  rw [c2] at nd
  have sq : ∀ q, q ≠ n → (S.set n (.rox ds))[q]? = S[q]? := fun q hq => List.getElem?_set_ne fun z => hq z.symm
  have cn : (S.set n (.rox ds))[n]? = some (.rox ds) := List.getElem?_set_self hl
  have kp : Keep F S (fun k => F k ∨ k ∈ As i) (S.set n (.rox ds)) := fun k hk => ⟨.inl hk, sq k fun z => nf (by rw [← z]; exact hk)⟩
  have g1 : Good p0 (fun k => F k ∨ k ∈ As i) (S.set n (.rox ds)) t := by
    refine ⟨fun k hk => by rw [List.length_set]; exact hk.elim (g.lt k) fun z => (re.off i k z).2.2.2.2, fun hk => hk.elim g.np fun z => (re.off i p0 z).2.2.2.1 rfl, ?_⟩
    obtain ⟨a, b', c', hd, rr⟩ := g.dk
    exact ⟨a, b', c', by rw [sq p0 fun z => np z.symm]; exact hd, rr⟩
  have od : OwnD p0 (fun k => F k ∨ k ∈ As i) (S.set n (.rox ds)) ns kvs ds := c4.mono kp fun q hq => sq q fun z => (List.nodup_cons.mp nd).1 (by rw [← z]; exact hq)
  have rp : Rep p0 (fun k => F k ∨ k ∈ As i) (S.set n (.rox ds)) (.dcx (kvs.map fun kv => (kv.1, .lst kv.2))) (.ptr n) := by
    unfold Rep
    exact ⟨n, ds, rfl, .inr hn, cn, od.rep fun m hm => .inr (by rw [c2]; exact List.mem_cons_of_mem _ hm)⟩
  have re1 := re.put i (.val (.dcx (kvs.map fun kv => (kv.1, .lst kv.2)))) (some (.ptr n)) [] kp (fun m _ z => z) (fun j hj q hq => sq q fun z => hj (by subst z; exact re.dis j i q hq hn)) (by rw [List.length_set]; exact Nat.le_refl _) (ρ' := ρ) rfl (fun _ _ => rfl) (fun _ => c1) (fun _ => rfl) (fun _ => rfl) (fun w e => by cases e; exact ⟨_, rfl, rp⟩) (fun _ z => by cases z) List.nodup_nil fun _ z => by cases z
  have z := hm p0 _ _ b ρ _ t _ noE ⟨_, re1⟩ g1 h
  unfold eLockM
  rw [c1]
  simp only [c3]
  cases hr : m ρ (S.set n (.rox ds)) with
  | bad => rw [hr] at z; exact z
  | exn y S1 => rw [hr] at z; exact (noE_off z).elim
  | ok d S1 =>
    rw [hr] at z
    obtain ⟨F1, v, t1, x1, g2, r1, pl, h1⟩ := z
    have e1 : S1[n]? = some (.rox ds) := by rw [((x1.keep g1) n (.inr hn)).2]; exact cn
    simp only
    rw [if_pos e1]
    have l1 := x1.len
    rw [List.length_set] at l1
    have sq1 : ∀ q, q ≠ n → (S1.set n (.dcx ds))[q]? = S1[q]? := fun q hq => List.getElem?_set_ne fun z => hq z.symm
    refine ⟨F, v, t1, ⟨by rw [List.length_set]; exact l1, fun m hm hp => ?_, fun _ h => h, fun _ _ h => h⟩, ⟨fun k hk => by rw [List.length_set]; exact Nat.lt_of_lt_of_le (g.lt k hk) l1, g.np, ?_⟩, r1.plain _ _ pl, h1⟩
    · by_cases hmn : m = n
      · subst hmn
        rw [List.getElem?_set_self (lt_of_get e1)]; exact c3.symm
      · rw [sq1 m hmn, x1.same m (by rw [List.length_set]; exact hm) hp, sq m hmn]
    · obtain ⟨a, b', c', hd, rr⟩ := g2.dk
      exact ⟨a, b', c', by rw [sq1 p0 fun z => np z.symm]; exact hd, rr⟩
def piVals (m : PE) : PI := fun π t P E => m π t (fun v t1 => match v with
  | .dcx kvs => P (kvs.map (·.2)) t1
  | _ => False) E
theorem sim_iVals {m : ME} {pm : PE} (hm : SimE m pm) : SimI (iValsM m) (piVals pm) := by
  intro p0 F S b ρ π t P E re g h
  refine Sim.bind hm re g h fun F1 S1 x v t1 x1 g1 re1 r1 h1 => ?_
  cases v <;> try exact h1.elim
  unfold Rep at r1
  obtain ⟨n, ds, rfl, f, c, k⟩ := r1
  simp only [c]
  exact Po.here g1 ⟨k.vals, fun _ _ _ => trivial⟩ h1
/-! min of a list -/
def pMinA : PF := fun vs t P _ => match vs with
  | [.int i, .int j] => P (.int (if j < i then j else i)) t
  | [.lst xs] => ∃ ps v, mapO shP xs = some ps ∧ okSort ps = true ∧ xs[minAt ps]? = some v ∧ P v t
  | _ => False
theorem sf_minA : SimF fMinA pMinA := by
  intro p0 F S ds vs t P E g r0 h
  unfold pMinA at h
  split at h
  · obtain ⟨d, e, rfl, r1, r2⟩ := r0.two
    unfold Rep at r1 r2; subst r1 r2
    exact Po.here g (by unfold Rep; rfl) h
  · obtain ⟨d, rfl, r⟩ := r0.one
    obtain ⟨n, es, rfl, fn, c, k⟩ := r.lstL
    obtain ⟨ps, v, e, ho, hv, h⟩ := h
    obtain ⟨d, hd, rd⟩ := k.get hv
    unfold fMinA; simp only [c]
    unfold minD1; simp only [mapO_deep k e]
    rw [if_pos ho]
    simp only [hd]
    exact Po.here g rd h
  · exact h.elim
end
end RP

namespace RP
open PySem PySem.Spec PyProof.Rows L2 RL

section
variable {t : Int} {P : PV → Int → Prop} {E : PX → Int → Prop} {α β : Type}
/-! ### items -/
theorem atI_0 {a : α} {l : List α} : atI (a :: l) 0 = some a := by
  unfold atI ixN; simp
theorem atI_1 {a b : α} {l : List α} : atI (a :: b :: l) 1 = some b := by
  unfold atI ixN; simp [show (1:Int) < (l.length : Int) + 1 + 1 by omega]
theorem atI_2 {a b c : α} {l : List α} : atI (a :: b :: c :: l) 2 = some c := by
  unfold atI ixN; simp [show (2:Int) < (l.length : Int) + 1 + 1 + 1 by omega]
theorem atI_nat {l : List α} {i : Nat} (h : i < l.length) : atI l (i : Int) = some l[i] := by
  unfold atI ixN
  rw [if_pos (by omega), if_pos (by omega)]
  simp
theorem sl_eq : sizeLine = 16777216 := by decide
/-! ### data that can be shown and compared -/
def Nice (k w : Nat) (v : PV) : Prop := ∃ p, (∀ j, k < j → shO j v = some p) ∧ p.showable = true ∧ p.leavesShort 8 = true ∧ p.depth ≤ k ∧ p.weight ≤ w ∧ p.canLay0 = true
def NiceL (k w : Nat) (vs : List PV) : Prop := ∃ ps, (∀ j, k < j → mapO (shO j) vs = some ps) ∧ PyData.showableAll ps = true ∧ PyData.leavesShortAll 8 ps = true ∧ PyData.depthAll ps ≤ k ∧ PyData.weightAll ps ≤ w ∧ PyData.canLayAll0 ps = true
theorem Nice.weak {k w k' w' : Nat} {v : PV} (h : Nice k w v) (h1 : k ≤ k') (h2 : w ≤ w') : Nice k' w' v := by
  obtain ⟨p, a, b, c, d, e, f⟩ := h
  exact ⟨p, fun j hj => a j (by omega), b, c, by omega, by omega, f⟩
theorem nice_int {i : Int} (h : i.natAbs < 1024) : Nice 0 10 (.int i) := by
  have hl : i.natAbs = 0 ∨ i.natAbs.log2 < 10 := by
    by_cases h0 : i.natAbs = 0
    · exact .inl h0
    · exact .inr ((Nat.log2_lt h0).mpr h)
  refine ⟨.int i, fun j hj => ?_, ?_, ?_, Nat.le_refl _, ?_, rfl⟩
  · cases j with
    | zero => omega
    | succ j => rfl
  · simp only [PyData.showable, decide_eq_true_eq]
    rcases hl with h0 | h1
    · rw [h0]; decide
    · omega
  · simp only [PyData.leavesShort, decide_eq_true_eq]
    have := PySem.int_text_length_le10 (a := i) (k := 4) (by decide) (Nat.lt_trans h (by decide))
    show (Str.ofString (toString i)).length ≤ 8
    rw [PySem.ofString_length]
    omega
  · simp only [PyData.weight]
    split
    · omega
    · rename_i h0
      rcases hl with h1 | h1
      · exact absurd (Int.natAbs_eq_zero.mp h1) (by simpa using h0)
      · omega
theorem nice_any : Nice 0 10 (.str "any") := ⟨.str "any", fun j hj => by cases j with | zero => omega | succ j => rfl, rfl, by decide +kernel, Nat.le_refl _, by decide +kernel, by decide +kernel⟩
theorem nice_odd : Nice 0 10 (.str "odd") := ⟨.str "odd", fun j hj => by cases j with | zero => omega | succ j => rfl, rfl, by decide +kernel, Nat.le_refl _, by decide +kernel, by decide +kernel⟩
theorem nice_bl (b : Bool) : Nice 0 10 (.bl b) := ⟨.bool b, fun j hj => by cases j with | zero => omega | succ j => rfl, rfl, rfl, Nat.le_refl _, Nat.zero_le _, rfl⟩
theorem nice_non : Nice 0 10 .non := ⟨.none, fun j hj => by cases j with | zero => omega | succ j => rfl, rfl, rfl, Nat.le_refl _, Nat.zero_le _, rfl⟩
theorem niceL_nil {k : Nat} : NiceL k 0 [] := ⟨[], fun _ _ => rfl, rfl, rfl, Nat.zero_le _, Nat.zero_le _, rfl⟩
theorem niceL_cons {k w w' : Nat} {v : PV} {vs : List PV} (h : Nice k w v) (h' : NiceL k w' vs) : NiceL k (w + 1 + w') (v :: vs) := by
  obtain ⟨p, a, b, c, d, e, f⟩ := h
  obtain ⟨ps, a', b', c', d', e', f'⟩ := h'
  refine ⟨p :: ps, fun j hj => ?_, ?_, ?_, ?_, ?_, ?_⟩
  · unfold mapO; rw [a j hj, a' j hj]
  · unfold PyData.showableAll; rw [b, b']; rfl
  · unfold PyData.leavesShortAll; rw [c, c']; rfl
  · unfold PyData.depthAll; omega
  · unfold PyData.weightAll; omega
  · unfold PyData.canLayAll0; rw [f, f']; rfl
theorem NiceL.weak {k w w' : Nat} {v : List PV} (h : NiceL k w v) (h2 : w ≤ w') : NiceL k w' v := by
  obtain ⟨p, a, b, c, d, e, f⟩ := h
  exact ⟨p, a, b, c, d, by omega, f⟩
theorem niceL_all {k w : Nat} : ∀ {vs : List PV}, (∀ v ∈ vs, Nice k w v) → NiceL k ((w + 1) * vs.length) vs
  | [], _ => niceL_nil
  | v :: vs, h => by
    have := niceL_cons (h v List.mem_cons_self) (niceL_all fun u hu => h u (List.mem_cons_of_mem _ hu))
    refine this.weak ?_
    rw [List.length_cons, Nat.mul_succ]; omega
theorem nice_tupL {k w : Nat} {vs : List PV} (h : NiceL k w vs) : Nice (k + 1) w (.tup vs) := by
  obtain ⟨ps, a, b, c, d, e, f⟩ := h
  refine ⟨.tuple ps, fun j hj => ?_, ?_, ?_, ?_, ?_, ?_⟩
  · cases j with
    | zero => omega
    | succ j => unfold shO; rw [a j (by omega)]; rfl
  · unfold PyData.showable; exact b
  · unfold PyData.leavesShort; exact c
  · unfold PyData.depth; omega
  · unfold PyData.weight; exact e
  · unfold PyData.canLay0; exact f
theorem nice_lstL {k w : Nat} {vs : List PV} (h : NiceL k w vs) : Nice (k + 1) w (.lst vs) := by
  obtain ⟨ps, a, b, c, d, e, f⟩ := h
  refine ⟨.list ps, fun j hj => ?_, ?_, ?_, ?_, ?_, ?_⟩
  · cases j with
    | zero => omega
    | succ j => unfold shO; rw [a j (by omega)]; rfl
  · unfold PyData.showable; exact b
  · unfold PyData.leavesShort; exact c
  · unfold PyData.depth; omega
  · unfold PyData.weight; exact e
  · unfold PyData.canLay0; exact f
theorem nice_tup {k w n : Nat} {vs : List PV} (h : ∀ v ∈ vs, Nice k w v) (hn : vs.length ≤ n) : Nice (k + 1) ((w + 1) * n) (.tup vs) := nice_tupL ((niceL_all h).weak (Nat.mul_le_mul_left _ hn))
theorem nice_lst {k w n : Nat} {vs : List PV} (h : ∀ v ∈ vs, Nice k w v) (hn : vs.length ≤ n) : Nice (k + 1) ((w + 1) * n) (.lst vs) := nice_lstL ((niceL_all h).weak (Nat.mul_le_mul_left _ hn))
/-- what stands in repr -/
def shw (v : PV) : Str := ((shP v).getD .none).shown
theorem w_repr {k w : Nat} {v : PV} (h : Nice k w v) (hk : k ≤ 12) (hw : w ≤ 1600000) : pRepr [v] t P E = P (.str (shw v)) t := by
  obtain ⟨p, a, b, c, d, e, f⟩ := h
  have h1 := a deepLine (by unfold deepLine; omega)
  have hl : p.shown.length ≤ sizeLine := by
    have z := PyData.shown_le 8 (by decide) p c
    have : (8 + 2) * p.weight ≤ 10 * 1600000 := Nat.mul_le_mul (by omega) (by omega)
    rw [sl_eq]; omega
  unfold pRepr shw
  simp only [h1, Option.getD_some]
  refine propext ⟨?_, fun z => ⟨p, rfl, ⟨b, hl, by omega⟩, z⟩⟩
  rintro ⟨q, e, _, z⟩
  cases e
  exact z
theorem nice_eqv {k w : Nat} {v : PV} (h : Nice k w v) (hk : k ≤ 12) : ∃ p, shP v = some p ∧ SeqAt.shaped p = true ∧ PyData.eqv p p = true := by
  obtain ⟨p, a, b, c, d, e, f⟩ := h
  refine ⟨p, a deepLine (by unfold deepLine; omega), ?_, PySem.SeqAt.eqv_refl p f⟩
  unfold SeqAt.shaped
  rw [f]
  simp only [Bool.true_and, decide_eq_true_eq]
  omega
theorem w_eq_self {k w : Nat} {v : PV} (h : Nice k w v) (hk : k ≤ 12) : pEq v v t P E = P (.bl true) t := by
  obtain ⟨p, h1, h2, h3⟩ := nice_eqv h hk
  unfold pEq
  split
  · rename_i a b e
    cases e
    simp
  · refine propext ⟨?_, fun z => ⟨p, p, h1, h1, h2, h2, by rw [h3]; exact z⟩⟩
    rintro ⟨d, e, z1, z2, _, _, z⟩
    rw [h1] at z1 z2
    cases z1; cases z2
    rw [h3] at z
    exact z
theorem w_ne_self {k w : Nat} {v : PV} (h : Nice k w v) (hk : k ≤ 12) : pNe v v t P E = P (.bl false) t := by
  obtain ⟨p, h1, h2, h3⟩ := nice_eqv h hk
  unfold pNe
  split
  · rename_i a b e
    cases e
    simp
  · refine propext ⟨?_, fun z => ⟨p, p, h1, h1, h2, h2, by rw [h3]; exact z⟩⟩
    rintro ⟨d, e, z1, z2, _, _, z⟩
    rw [h1] at z1 z2
    cases z1; cases z2
    rw [h3] at z
    exact z
theorem w_eqS {a b : Str} : pEq (.str a) (.str b) t P E = P (.bl (a == b)) t := rfl
theorem w_neS {a b : Str} : pNe (.str a) (.str b) t P E = P (.bl (!(a == b))) t := rfl
theorem w_eqI {a b : Int} : pEq (.int a) (.int b) t P E = P (.bl (decide (a = b))) t := by
  unfold pEq
  refine propext ⟨?_, fun z => ⟨.int a, .int b, rfl, rfl, rfl, rfl, ?_⟩⟩
  · rintro ⟨d, e, z1, z2, _, _, z⟩
    cases z1; cases z2
    have : PyData.eqv (.int a) (.int b) = decide (a = b) := by
      unfold PyData.eqv; by_cases h : a = b <;> simp [h]
    rw [this] at z; exact z
  · have : PyData.eqv (.int a) (.int b) = decide (a = b) := by
      unfold PyData.eqv; by_cases h : a = b <;> simp [h]
    rw [this]; exact z
theorem w_neI {a b : Int} : pNe (.int a) (.int b) t P E = P (.bl (!decide (a = b))) t := by
  unfold pNe
  have : PyData.eqv (.int a) (.int b) = decide (a = b) := by
    unfold PyData.eqv; by_cases h : a = b <;> simp [h]
  refine propext ⟨?_, fun z => ⟨.int a, .int b, rfl, rfl, rfl, rfl, ?_⟩⟩
  · rintro ⟨d, e, z1, z2, _, _, z⟩
    cases z1; cases z2
    rw [this] at z; exact z
  · rw [this]; exact z
/-! ### groups, tables, ways -/
def gV (l : List Int) : PV := .tup (l.map .int)
def tV (T : List (List Int)) : PV := .tup (T.map gV)
def wV (h : Int) (m : Str) (Ts : List (List (List Int))) : PV := .tup [.int h, .str m, .tup (Ts.map tV)]
theorem inV_ints (x : Int) : ∀ l : List Int, inV (.int x) ((l.map PV.int).map toVP) = decide (x ∈ l)
  | [] => rfl
  | y :: l => by
    have IH := inV_ints x l
    have e : eqV (.int y) (.int x) = decide (x = y) := by
      show (y == x) = _
      by_cases h : x = y
      · subst h; simp
      · have h' : ¬ y = x := fun z => h z.symm
        simp [h, h']
    unfold inV at IH ⊢
    rw [List.map_cons, List.map_cons, List.any_cons]
    show (eqV (.int y) (.int x) || _) = _
    rw [IH, e]
    by_cases h : x = y <;> simp [h]
theorem all_flat : ∀ l : List Int, (l.map PV.int).all flatP = true
  | [] => rfl
  | _ :: l => by rw [List.map_cons, List.all_cons, all_flat l]; rfl
theorem w_in {x : Int} {l : List Int} : pIn (.int x) (gV l) t P E = P (.bl (decide (x ∈ l))) t := by
  unfold pIn inP gV
  rw [← inV_ints]
  refine propext ⟨?_, fun z => ⟨_, rfl, .inl ⟨rfl, all_flat l, z⟩⟩⟩
  rintro ⟨ys, e, ⟨_, _, z⟩ | ⟨us, zs, d, ds, e1, _⟩⟩
  · cases e; exact z
  · cases e1
theorem w_notIn {x : Int} {l : List Int} : pNotIn (.int x) (gV l) t P E = P (.bl (!decide (x ∈ l))) t := by
  unfold pNotIn inP gV
  rw [← inV_ints]
  refine propext ⟨?_, fun z => ⟨_, rfl, .inl ⟨rfl, all_flat l, z⟩⟩⟩
  rintro ⟨ys, e, ⟨_, _, z⟩ | ⟨us, zs, d, ds, e1, _⟩⟩
  · cases e; exact z
  · cases e1
theorem intsP_map : ∀ l : List Int, intsP (l.map PV.int) = some l
  | [] => rfl
  | x :: l => by
    rw [List.map_cons]
    unfold intsP
    rw [intsP_map l]
theorem w_le2G {a b : List Int} : pLe2 (gV a) (gV b) t P E = P (.bl (!HT.lexLt b a)) t := by
  unfold pLe2 gV
  simp only [intsP_map, Option.some.injEq]
  exact propext ⟨fun ⟨_, _, e1, e2, z⟩ => by subst e1 e2; exact z, fun z => ⟨_, _, rfl, rfl, z⟩⟩
theorem w_ltG {a b : List Int} : pLt (gV a) (gV b) t P E = P (.bl (HT.lexLt a b)) t := by
  unfold pLt gV
  simp only [intsP_map, Option.some.injEq]
  exact propext ⟨fun ⟨_, _, e1, e2, z⟩ => by subst e1 e2; exact z, fun z => ⟨_, _, rfl, rfl, z⟩⟩
theorem fold_g (l : List Int) : PV.tup (l.map PV.int) = gV l := by unfold gV; rfl
theorem fold_t (T : List (List Int)) : PV.tup (T.map gV) = tV T := by unfold tV; rfl
theorem u_addG {a b : List Int} : pAdd (gV a) (gV b) t P E = (a.length + b.length ≤ sizeLine ∧ P (gV (a ++ b)) t) := by
  unfold gV pAdd
  simp only [List.length_map, List.map_append]
theorem sh_ints (j : Nat) : ∀ l : List Int, mapO (shO (j + 1)) (l.map PV.int) = some (l.map PyData.int)
  | [] => rfl
  | x :: l => by
    rw [List.map_cons]
    unfold mapO
    rw [sh_ints j l]
    rfl
theorem sh_gV (j : Nat) (l : List Int) : shO (j + 2) (gV l) = some (.tuple (l.map PyData.int)) := by
  unfold gV shO
  rw [sh_ints]
  rfl
theorem sh_gVs (j : Nat) : ∀ ls : List (List Int), mapO (shO (j + 2)) (ls.map gV) = some (ls.map fun l => .tuple (l.map PyData.int))
  | [] => rfl
  | x :: l => by
    rw [List.map_cons]
    unfold mapO
    rw [sh_gVs j l, sh_gV]
    rfl
theorem sort_gV (ls : List (List Int)) : (ls.map gV).mergeSort leP = (sortI ls).map gV := by
  unfold sortI
  refine (List.map_mergeSort fun a _ b _ => ?_).symm
  have d : ∀ l : List Int, (shP (gV l)).getD .none = .tuple (l.map PyData.int) := fun l => by
    show (shO (38 + 2) (gV l)).getD .none = _
    rw [sh_gV]; rfl
  have d' : ∀ (S : Store) (l : List Int), shownD S (RL.tupI l) = .tuple (l.map PyData.int) := fun S l => by
    unfold shownD
    rw [show deep S deepLine (RL.tupI l) = _ from deep_tupI S 38 l]
    rfl
  unfold leP leI leD PySem.W.sortLe
  simp only [d, d']
theorem w_sortL (ls : List (List Int)) : pSorted [.lst (ls.map gV)] t P E = P (.lst ((sortI ls).map gV)) t := by
  unfold pSorted
  simp only
  rw [sort_gV]
  refine propext ⟨fun ⟨_, _, _, z⟩ => z, fun z => ⟨_, sh_gVs 38 ls, okSort_tups ls, z⟩⟩
theorem w_sortT (ls : List (List Int)) : pSorted [.tup (ls.map gV)] t P E = P (.lst ((sortI ls).map gV)) t := by
  unfold pSorted
  simp only
  rw [sort_gV]
  refine propext ⟨fun ⟨_, _, _, z⟩ => z, fun z => ⟨_, sh_gVs 38 ls, okSort_tups ls, z⟩⟩
/-- two tables put together -/
theorem lexLt_asym : ∀ a b : List Int, HT.lexLt a b = false → HT.lexLt b a = false → a = b
  | [], [], _, _ => rfl
  | [], _ :: _, h, _ => by cases h
  | _ :: _, [], _, h => by cases h
  | x :: xs, y :: ys, h1, h2 => by
    unfold HT.lexLt at h1 h2
    by_cases e : x = y
    · subst e
      rw [if_pos rfl] at h1 h2
      rw [lexLt_asym xs ys h1 h2]
    · rw [if_neg e] at h1
      rw [if_neg (fun z => e z.symm)] at h2
      simp only [decide_eq_false_iff_not] at h1 h2
      omega
theorem sortI_perm {a b : List (List Int)} (h : a.Perm b) : sortI a = sortI b := by
  refine List.Perm.eq_of_pairwise (le := fun a b => leI a b = true) (fun x y _ _ h1 h2 => ?_) (List.pairwise_mergeSort leI_trans leI_total a) (List.pairwise_mergeSort leI_trans leI_total b) ((List.mergeSort_perm a _).trans (h.trans (List.mergeSort_perm b _).symm))
  rw [leI_eq] at h1 h2
  simp only [Bool.not_eq_true'] at h1 h2
  exact (lexLt_asym y x h1 h2).symm
theorem sortI_sort (a : List (List Int)) : (sortI a).Perm a := List.mergeSort_perm a _
theorem sortI_len (a : List (List Int)) : (sortI a).length = a.length := (sortI_sort a).length_eq
theorem sortI_idem (a : List (List Int)) : sortI (sortI a) = sortI a := sortI_perm (sortI_sort a)
theorem sortI_memm {a : List (List Int)} {g : List Int} : g ∈ sortI a ↔ g ∈ a := (sortI_sort a).mem_iff
/-! ### comprehensions, loops -/
theorem comp_eq (enc : α → PV) (h : α → Bool) (f : α → PV) {i : Nat} {c : PT} {e : PE} {π : PEnv} {P : List PV → Int → Prop} : ∀ (xs : List α) (acc : List PV), acc.length + xs.length ≤ sizeLine →
    (∀ x ∈ xs, ∀ t K, c (π.set i (.val (enc x))) t K noE = K (h x) t) → (∀ x ∈ xs, h x = true → ∀ t K, e (π.set i (.val (enc x))) t K noE = K (f x) t) →
    compW (pbNm i) c e π acc (xs.map enc) t P E = P (acc ++ (xs.filter h).map f) t
  | [], acc, _, _, _ => by
    show P acc t = P (acc ++ []) t
    rw [List.append_nil]
  | x :: xs, acc, hl, hc, he => by
    rw [List.length_cons] at hl
    rw [List.map_cons]
    unfold compW
    have hc' := hc x List.mem_cons_self
    have IH := fun acc hl => comp_eq (P := P) enc h f xs acc hl (fun y hy => hc y (List.mem_cons_of_mem _ hy)) fun y hy => he y (List.mem_cons_of_mem _ hy)
    simp only [pbNm, Option.some.injEq, exists_eq_left', hc']
    by_cases hx : h x = true
    · simp only [hx, if_true, he x List.mem_cons_self hx]
      rw [IH _ (by simp; omega), List.filter_cons_of_pos hx, List.map_cons, List.append_assoc]
      simp only [List.cons_append, List.nil_append]
      exact propext ⟨fun z => z.2, fun z => ⟨by omega, z⟩⟩
    · simp only [hx, Bool.false_eq_true, if_false]
      rw [IH _ (by omega), List.filter_cons_of_neg hx]
theorem comp_map (enc : α → PV) (f : α → PV) {i : Nat} {e : PE} {π : PEnv} {P : List PV → Int → Prop} (xs : List α) (hl : xs.length ≤ sizeLine)
    (he : ∀ x ∈ xs, ∀ t K, e (π.set i (.val (enc x))) t K noE = K (f x) t) : compW (pbNm i) pYes e π [] (xs.map enc) t P E = P (xs.map f) t := by
  have := comp_eq (t := t) (E := E) (P := P) (i := i) (c := pYes) (e := e) (π := π) enc (fun _ => true) f xs [] (by simpa using hl) (fun _ _ _ _ => rfl) fun x hx _ => he x hx
  rw [this, List.nil_append, List.filter_eq_self.mpr fun _ _ => rfl]
/-- pairs -/
theorem comp_pair (enc : α → PV) (enc2 : β → PV) (f : α → β → PV) {i j : Nat} {e : PE} {π : PEnv} {P : List PV → Int → Prop} : ∀ (xs : List α) (ys : List β) (acc : List PV), acc.length + xs.length ≤ sizeLine →
    (∀ x ∈ xs, ∀ y ∈ ys, ∀ t K, e ((π.set i (.val (enc x))).set j (.val (enc2 y))) t K noE = K (f x y) t) →
    compW (pbPr i j) pYes e π acc (zipP (xs.map enc) (ys.map enc2)) t P E = P (acc ++ List.zipWith f xs ys) t
  | [], ys, acc, _, _ => by
    show P acc t = P (acc ++ []) t
    rw [List.append_nil]
  | x :: xs, [], acc, _, _ => by
    show P acc t = P (acc ++ []) t
    rw [List.append_nil]
  | x :: xs, y :: ys, acc, hl, he => by
    rw [List.length_cons] at hl
    show compW (pbPr i j) pYes e π acc (.tup [enc x, enc2 y] :: zipP (xs.map enc) (ys.map enc2)) t P E = _
    unfold compW
    have IH := fun acc hl => comp_pair (P := P) enc enc2 f xs ys acc hl fun a ha b hb => he a (List.mem_cons_of_mem _ ha) b (List.mem_cons_of_mem _ hb)
    simp only [pbPr, Option.some.injEq, exists_eq_left', pYes, if_true, he x List.mem_cons_self y List.mem_cons_self]
    rw [IH _ (by simp; omega), List.zipWith_cons_cons, List.append_assoc]
    exact propext ⟨fun z => z.2, fun z => ⟨by omega, z⟩⟩
/-- draws: each turn gives something of the kind R, and costs at most c -/
theorem comp_draw {R : PV → Prop} {c : Int} (hc : 0 ≤ c) {i : Nat} {e : PE} {π : PEnv} {P : List PV → Int → Prop} : ∀ (xs acc : List PV) (t : Int), acc.length + xs.length ≤ sizeLine →
    (∀ x ∈ xs, ∀ t' K, t' ≤ t + c * xs.length → (∀ y t'', R y → t'' ≤ t' + c → K y t'') → e (π.set i (.val x)) t' K noE) →
    (∀ ys t', ys.length = xs.length → (∀ y ∈ ys, R y) → t' ≤ t + c * xs.length → P (acc ++ ys) t') → compW (pbNm i) pYes e π acc xs t P E
  | [], acc, t, _, _, hP => by
    have := hP [] t rfl (fun _ h => by cases h) (by simp)
    rw [List.append_nil] at this
    exact this
  | x :: xs, acc, t, hl, he, hP => by
    rw [List.length_cons] at hl
    have hmul : c * ((x :: xs).length : Int) = c * xs.length + c := by
      rw [List.length_cons]; push_cast; rw [Int.mul_add]; omega
    unfold compW
    refine ⟨_, rfl, ?_⟩
    simp only [pYes, if_true]
    have hcl : 0 ≤ c * (xs.length : Int) := Int.mul_nonneg hc (by omega)
    refine he x List.mem_cons_self t _ (by rw [hmul]; omega) fun y t1 hy ht => ⟨by omega, ?_⟩
    refine comp_draw hc xs (acc ++ [y]) t1 (by simp; omega) (fun z hz t' K h' => he z (List.mem_cons_of_mem _ hz) t' K (by rw [hmul]; omega)) fun ys t2 h1 h2 h3 => ?_
    rw [List.append_assoc]
    refine hP (y :: ys) t2 (by rw [List.length_cons, List.length_cons, h1]) (fun z hz => ?_) (by rw [hmul]; omega)
    rcases List.mem_cons.mp hz with rfl | hz
    · exact hy
    · exact h2 z hz
/-- values of a kind, decoded -/
theorem decode {enc : α → PV} {p : α → Prop} : ∀ {ys : List PV}, (∀ y ∈ ys, ∃ a, y = enc a ∧ p a) → ∃ l : List α, ys = l.map enc ∧ (∀ a ∈ l, p a) ∧ l.length = ys.length
  | [], _ => ⟨[], rfl, fun _ h => (by cases h), rfl⟩
  | y :: ys, h => by
    obtain ⟨a, rfl, ha⟩ := h y List.mem_cons_self
    obtain ⟨l, rfl, hl, e⟩ := decode fun z hz => h z (List.mem_cons_of_mem _ hz)
    refine ⟨a :: l, rfl, fun b hb => ?_, by simp⟩
    rcases List.mem_cons.mp hb with rfl | hb
    · exact ha
    · exact hl b hb
/-- a loop that just goes on: s is what the names hold -/
theorem for_det {σ : Type} (enc : α → PV) (st : σ → PEnv) (step : σ → α → σ) {pg : PG} {body : PSt} {Q : PPs} : ∀ (xs : List α) (s : σ),
    (∀ s, ∀ x ∈ xs, ∀ t (Q' : PPs), pg (enc x) (st s) t (nxP { Q' with nx := fun π1 t1 => body π1 t1 Q' }) = Q'.nx (st (step s x)) t) → 
    forW pg body (xs.map enc) (st s) t Q = Q.nx (st (xs.foldl step s)) t
  | [], s, _ => rfl
  | x :: xs, s, h => by
    rw [List.map_cons]
    unfold forW
    have h1 := h s x List.mem_cons_self t { Q with nx := fun π2 t2 => forW pg body (xs.map enc) π2 t2 Q, ct := fun π2 t2 => forW pg body (xs.map enc) π2 t2 Q, bk := Q.nx }
    have IH := for_det (Q := Q) (pg := pg) (body := body) enc st step xs (step s x) fun s y hy => h s y (List.mem_cons_of_mem _ hy)
    rw [List.foldl_cons, ← IH]
    exact h1
/-- a loop by an invariant of what is left -/
theorem for_inv {pg : PG} {body : PSt} {Q : PPs} (I : List PV → PEnv → Int → Prop)
    (step : ∀ x xs π t, I (x :: xs) π t → ∀ K : PEnv → Int → Prop, (∀ π t, I xs π t → K π t) → pg x π t (nxP { Q with nx := fun π1 t1 => body π1 t1 { Q with nx := K, ct := K, bk := Q.nx } }))
    (fin : ∀ π t, I [] π t → Q.nx π t) : ∀ xs π t, I xs π t → forW pg body xs π t Q
  | [], π, t, h => fin π t h
  | x :: xs, π, t, h => by
    unfold forW
    exact step x xs π t h _ fun π t h => for_inv I step fin xs π t h
/-! ### kinds -/
theorem isi_ii : isiB "int" "int" = true := by decide
theorem isi_ib : isiB "int" "bool" = false := by decide
theorem isi_tt : isiB "tuple" "tuple" = true := by decide
theorem isi_ss : isiB "str" "str" = true := by decide
theorem isi_tl : isiB "tuple" "list" = false := by decide
theorem isi_lt : isiB "list" "tuple" = false := by decide
theorem bools_map (f : α → Bool) : ∀ xs : List α, boolsP (xs.map fun x => .bl (f x)) = some (xs.map f)
  | [] => rfl
  | x :: xs => by
    rw [List.map_cons, List.map_cons]
    unfold boolsP
    rw [bools_map f xs]
theorem w_all (f : α → Bool) (xs : List α) : pAll [.lst (xs.map fun x => .bl (f x))] t P E = P (.bl (xs.all f)) t := by
  unfold pAll pBools
  simp only [bools_map, Option.some.injEq, exists_eq_left']
  congr 2
  rw [List.all_map]; rfl
theorem w_any (f : α → Bool) (xs : List α) : pAny [.lst (xs.map fun x => .bl (f x))] t P E = P (.bl (xs.any f)) t := by
  unfold pAny pBools
  simp only [bools_map, Option.some.injEq, exists_eq_left']
  congr 2
  rw [List.any_map]; rfl
theorem rangeP_upto (n : Nat) : rangeP 0 n = (upto n).map PV.int := by
  unfold rangeP upto
  rw [List.map_map]
  refine List.map_congr_left fun i _ => ?_
  show PV.int (0 + (i : Int)) = .int i
  rw [Int.zero_add]
theorem rangeP_len (lo : Int) (n : Nat) : (rangeP lo n).length = n := by unfold rangeP; simp
theorem mem_rangeP {lo : Int} {n : Nat} {x : PV} (h : x ∈ rangeP lo n) : ∃ i : Nat, i < n ∧ x = .int (lo + i) := by
  unfold rangeP at h
  obtain ⟨i, hi, rfl⟩ := List.mem_map.mp h
  exact ⟨i, List.mem_range.mp hi, rfl⟩
theorem map_app (l : List Int) (x : Int) : l.map PV.int ++ [PV.int x] = (l ++ [x]).map PV.int := by simp
theorem pLen_tup {xs : List PV} : pLen [.tup xs] t P E = P (.int xs.length) t := propext Iff.rfl
theorem pLen_lst {xs : List PV} : pLen [.lst xs] t P E = P (.int xs.length) t := propext Iff.rfl
theorem pLen_tV {T : List (List Int)} : pLen [tV T] t P E = P (.int T.length) t := by unfold tV; rw [pLen_tup, List.length_map]
theorem pLen_gV {T : List Int} : pLen [gV T] t P E = P (.int T.length) t := by unfold gV; rw [pLen_tup, List.length_map]
theorem pTuple_tup {xs : List PV} : pTuple [.tup xs] t P E = P (.tup xs) t := propext Iff.rfl
theorem pTuple_lst {xs : List PV} : pTuple [.lst xs] t P E = P (.tup xs) t := propext Iff.rfl
theorem pList_tup {xs : List PV} : pList [.tup xs] t P E = P (.lst xs) t := propext Iff.rfl
theorem pList_lst {xs : List PV} : pList [.lst xs] t P E = P (.lst xs) t := propext Iff.rfl
theorem pInt_int {i : Int} : pInt [.int i] t P E = P (.int i) t := propext Iff.rfl
theorem pInt_bl {b : Bool} : pInt [.bl b] t P E = P (.int (if b then 1 else 0)) t := propext Iff.rfl
/-! ### how a run unfolds -/
section
variable {nx : PEnv → Int → Prop} {rt : PV → Int → Prop} {ct bk : PEnv → Int → Prop} {ex : PX → PEnv → Int → Prop} {π : PEnv} {m n : PSt} {e e1 e2 : PE} {c : PT} {ms : PA}
theorem u_body {k : Nat} {b : PSt} {vs : List PV} : pBody k b vs t P E = b (vs.map PSlot.val ++ List.replicate (k - vs.length) .no) t ⟨fun _ t1 => P .non t1, P, fun _ _ => False, fun _ _ => False, fun y _ t1 => E y t1⟩ := propext Iff.rfl
theorem u_seq : psSeq m n π t ⟨nx, rt, ct, bk, ex⟩ = m π t ⟨fun π1 t1 => n π1 t1 ⟨nx, rt, ct, bk, ex⟩, rt, ct, bk, ex⟩ := propext Iff.rfl
theorem u_if : psIf c m n π t ⟨nx, rt, ct, bk, ex⟩ = c π t (fun b t1 => if b = true then m π t1 ⟨nx, rt, ct, bk, ex⟩ else n π t1 ⟨nx, rt, ct, bk, ex⟩) (fun y t1 => ex y π t1) := propext Iff.rfl
theorem u_ret : psRet e π t ⟨nx, rt, ct, bk, ex⟩ = e π t rt (fun y t1 => ex y π t1) := propext Iff.rfl
theorem u_retN : psRetN π t ⟨nx, rt, ct, bk, ex⟩ = rt .non t := propext Iff.rfl
theorem u_drop : psDrop e π t ⟨nx, rt, ct, bk, ex⟩ = e π t (fun _ t1 => nx π t1) (fun y t1 => ex y π t1) := propext Iff.rfl
theorem u_pass : psPass π t ⟨nx, rt, ct, bk, ex⟩ = nx π t := propext Iff.rfl
theorem u_cont : psCont π t ⟨nx, rt, ct, bk, ex⟩ = ct π t := propext Iff.rfl
theorem u_brk : psBrk π t ⟨nx, rt, ct, bk, ex⟩ = bk π t := propext Iff.rfl
theorem u_set {i : Nat} : psSet i e π t ⟨nx, rt, ct, bk, ex⟩ = e π t (fun v t1 => nx (π.set i (.val v)) t1) (fun y t1 => ex y π t1) := propext Iff.rfl
theorem u_par {i j : Nat} : psPar i j ms π t ⟨nx, rt, ct, bk, ex⟩ = ms π t (fun vs t1 => match vs with
  | [x, y] => nx ((π.set i (.val x)).set j (.val y)) t1
  | _ => False) (fun y t1 => ex y π t1) := propext Iff.rfl
theorem u_asg {g : PG} : psAsg e g π t ⟨nx, rt, ct, bk, ex⟩ = e π t (fun v t1 => g v π t1 ⟨nx, fun _ _ => False, fun _ _ => False, fun _ _ => False, ex⟩) (fun y t1 => ex y π t1) := propext Iff.rfl
theorem u_for {i : PI} {g : PG} : psFor i g m π t ⟨nx, rt, ct, bk, ex⟩ = i π t (fun items t1 => forW g m items π t1 ⟨nx, rt, ct, bk, ex⟩) (fun y t1 => ex y π t1) := propext Iff.rfl
theorem u_own {i : Nat} : psOwn i ms π t ⟨nx, rt, ct, bk, ex⟩ = ms π t (fun vs t1 => vs.length ≤ sizeLine ∧ nx (π.set i (.own vs)) t1) (fun y t1 => ex y π t1) := propext Iff.rfl
theorem u_append {i : Nat} : psAppend i e π t ⟨nx, rt, ct, bk, ex⟩ = ((∃ vs, π[i]? = some (.own vs)) ∧ e π t (fun v t1 => ∃ vs, π[i]? = some (.own vs) ∧ vs.length < sizeLine ∧ nx (π.set i (.own (vs ++ [v]))) t1) (fun y t1 => ex y π t1)) := by
  unfold psAppend psAdd
  congr 2
  funext v t1
  exact propext ⟨fun ⟨vs, ws, h1, h2, h3, h4⟩ => by cases h2; exact ⟨vs, h1, h3, h4⟩, fun ⟨vs, h1, h3, h4⟩ => ⟨vs, _, h1, rfl, h3, h4⟩⟩
theorem u_extend {i : Nat} : psExtend i e π t ⟨nx, rt, ct, bk, ex⟩ = ((∃ vs, π[i]? = some (.own vs)) ∧ e π t (fun v t1 => ∃ vs ws, π[i]? = some (.own vs) ∧ v = .lst ws ∧ vs.length + ws.length ≤ sizeLine ∧ nx (π.set i (.own (vs ++ ws))) t1) (fun y t1 => ex y π t1)) := by
  unfold psExtend psAdd
  congr 2
  funext v t1
  refine propext ⟨fun ⟨vs, ws, h1, h2, h3, h4⟩ => ?_, fun ⟨vs, ws, h1, h2, h3, h4⟩ => ⟨vs, ws, h1, by rw [h2]; rfl, h3, h4⟩⟩
  cases v <;> first | (cases h2; done) | skip
  cases h2
  exact ⟨vs, ws, h1, rfl, h3, h4⟩
theorem u_put {i : Nat} {e0 : PE} : psPut i e0 e π t ⟨nx, rt, ct, bk, ex⟩ = ((∃ vs, π[i]? = some (.own vs)) ∧ e π t (fun v t1 => e0 π t1 (fun k t2 => match k with
  | .int k => ∃ vs j, π[i]? = some (.own vs) ∧ ixN vs.length k = some j ∧ nx (π.set i (.own (vs.set j v))) t2
  | _ => False) fun y t1 => ex y π t1) fun y t1 => ex y π t1) := propext Iff.rfl
theorem u_ownE {i : Nat} : psOwnE i e π t ⟨nx, rt, ct, bk, ex⟩ = e π t (fun v t1 => match v with
  | .lst vs => nx (π.set i (.own vs)) t1
  | _ => False) (fun y t1 => ex y π t1) := propext Iff.rfl
theorem u_par2 {oa ob : Bool} {i j : Nat} : psPar2 oa ob i j e1 e2 π t ⟨nx, rt, ct, bk, ex⟩ = (i ≠ j ∧ e1 π t (onlyB oa fun x t1 => e2 π t1 (onlyB ob fun y t2 => nx ((π.set i (slotO oa x)).set j (slotO ob y)) t2) fun y t1 => ex y π t1) fun y t1 => ex y π t1) := propext Iff.rfl
theorem u_par3 {oa ob oc : Bool} {i j l : Nat} {e3 : PE} : psPar3 oa ob oc i j l e1 e2 e3 π t ⟨nx, rt, ct, bk, ex⟩ = e1 π t (onlyB oa fun x t1 => e2 π t1 (onlyB ob fun y t2 => e3 π t2 (onlyB oc fun z t3 => nx (((π.set i (slotO oa x)).set j (slotO ob y)).set l (slotO oc z)) t3) fun y t1 => ex y π t1) fun y t1 => ex y π t1) (fun y t1 => ex y π t1) := propext Iff.rfl
theorem onlyB_f {K : PV → Int → Prop} {v : PV} : onlyB false K v t = K v t := propext Iff.rfl
theorem onlyB_t {K : PV → Int → Prop} {vs : List PV} : onlyB true K (.lst vs) t = K (.lst vs) t := propext Iff.rfl
theorem slotO_f {v : PV} : slotO false v = .val v := rfl
theorem slotO_t {vs : List PV} : slotO true (.lst vs) = .own vs := rfl
theorem u_view {i : Nat} : pView i e π t P E = e (frz π i) t (fun v t1 => plainP v = true ∧ P v t1) noE := propext Iff.rfl
theorem u_viewT {i : Nat} {P' : Bool → Int → Prop} : pViewT i c π t P' E = c (frz π i) t P' noE := propext Iff.rfl
theorem u_owns {i : Nat} {mi : PI} {bnd : PBnd} {vs : List Nat} : psOwns i mi bnd vs e π t ⟨nx, rt, ct, bk, ex⟩ = mi π t (fun items t1 => ownsW bnd e (wipeP π vs) [] items t1 (fun vss t2 => nx (π.set i (.obj (.lsts vss))) t2) noE) (fun y t1 => ex y π t1) := propext Iff.rfl
theorem u_forAdd {app : Bool} {i j : Nat} : psForAdd app i j e π t ⟨nx, rt, ct, bk, ex⟩ = ∃ vss, π[i]? = some (.obj (.lsts vss)) ∧ i ≠ j ∧ j < π.length ∧ forAddW app i j e ⟨nx, rt, ct, bk, ex⟩ [] vss π t := propext Iff.rfl
theorem u_frz {i : Nat} {Q : PPs} : psFrz i m π t Q = m (frz π i) t Q := propext Iff.rfl
theorem frz_own0 {vs : List PV} {r : PEnv} : frz (.own vs :: r) 0 = .val (.lst vs) :: r := by unfold frz; rfl
theorem frz_val0 {v : PV} {r : PEnv} : frz (.val v :: r) 0 = .val v :: r := by unfold frz; rfl
theorem frz_no0 {r : PEnv} : frz (.no :: r) 0 = .no :: r := by unfold frz; rfl
theorem frz_obj0 {x : OV} {r : PEnv} : frz (.obj x :: r) 0 = frzS (.obj x) :: r := by unfold frz; rfl
theorem frzS_lsts {vss : List (List PV)} : frzS (.obj (.lsts vss)) = .val (.lst (vss.map .lst)) := rfl
theorem frz_S {s : PSlot} {k : Nat} {r : PEnv} : frz (s :: r) (k + 1) = s :: frz r k := by
  unfold frz
  rw [List.getElem?_cons_succ]
  cases r[k]? with
  | none => rfl
  | some u => rfl
theorem u_nxP : nxP ⟨nx, rt, ct, bk, ex⟩ = ⟨nx, fun _ _ => False, fun _ _ => False, fun _ _ => False, ex⟩ := rfl
theorem u_gNm {i : Nat} {v : PV} : pgNm i v π t ⟨nx, rt, ct, bk, ex⟩ = nx (π.set i (.val v)) t := propext Iff.rfl
theorem u_gTpT {is : List Nat} {vs : List PV} : pgTp is (.tup vs) π t ⟨nx, rt, ct, bk, ex⟩ = (vs.length = is.length ∧ nx (setsP π is vs) t) := propext Iff.rfl
theorem u_gTpL {is : List Nat} {vs : List PV} : pgTp is (.lst vs) π t ⟨nx, rt, ct, bk, ex⟩ = (vs.length = is.length ∧ nx (setsP π is vs) t) := propext Iff.rfl
theorem u_forN {g : PG} : forW g m [] π t ⟨nx, rt, ct, bk, ex⟩ = nx π t := propext Iff.rfl
theorem u_forC {g : PG} {x : PV} {xs : List PV} : forW g m (x :: xs) π t ⟨nx, rt, ct, bk, ex⟩ = g x π t ⟨fun π1 t1 => m π1 t1 ⟨fun π2 t2 => forW g m xs π2 t2 ⟨nx, rt, ct, bk, ex⟩, rt, fun π2 t2 => forW g m xs π2 t2 ⟨nx, rt, ct, bk, ex⟩, nx, ex⟩, fun _ _ => False, fun _ _ => False, fun _ _ => False, ex⟩ := propext Iff.rfl
theorem u_bin {f : PV → PV → W PV} : pBin f e1 e2 π t P E = e1 π t (fun x t1 => e2 π t1 (fun y t2 => f x y t2 P E) E) E := propext Iff.rfl
theorem u_cons {P' : List PV → Int → Prop} : pCons e ms π t P' E = e π t (fun x t1 => ms π t1 (fun xs t2 => P' (x :: xs) t2) E) E := propext Iff.rfl
variable {tm tn : PT} {Pb : Bool → Int → Prop} {Pa : List PV → Int → Prop} {Po' : Option Int → Int → Prop} {e3 : PE} {f g : PV → PV → W PV} {xs ys : List PV} {i j : Int}
theorem u_var0 {v : PV} {r : PEnv} : pVar 0 (.val v :: r) t P E = P v t := propext Iff.rfl
theorem u_varS {k : Nat} {s : PSlot} {r : PEnv} : pVar (k + 1) (s :: r) t P E = pVar k r t P E := propext Iff.rfl
theorem u_c {v : PV} : pC v π t P E = P v t := propext Iff.rfl
theorem u_tOf : pTOf e π t Pb E = e π t (fun v t1 => match v with
  | .bl b => Pb b t1
  | _ => False) E := propext Iff.rfl
theorem u_not : pNotM tm π t Pb E = tm π t (fun b t1 => Pb (!b) t1) E := propext Iff.rfl
theorem u_and : pAndM tm tn π t Pb E = tm π t (fun b t1 => if b = true then tn π t1 Pb E else Pb false t1) E := propext Iff.rfl
theorem u_or : pOrM tm tn π t Pb E = tm π t (fun b t1 => if b = true then Pb true t1 else tn π t1 Pb E) E := propext Iff.rfl
theorem u_andV : pAndV e1 e2 π t P E = e1 π t (fun v t1 => match v with
  | .bl c => if c = true then e2 π t1 P E else P (.bl false) t1
  | _ => False) E := propext Iff.rfl
theorem u_orV : pOrV e1 e2 π t P E = e1 π t (fun v t1 => match v with
  | .bl c => if c = true then P (.bl true) t1 else e2 π t1 P E
  | _ => False) E := propext Iff.rfl
theorem u_notV : pNotV e π t P E = e π t (fun v t1 => match v with
  | .bl b => P (.bl (!b)) t1
  | _ => False) E := propext Iff.rfl
theorem u_ifE : pIf tm e1 e2 π t P E = tm π t (fun v t1 => if v = true then e1 π t1 P E else e2 π t1 P E) E := propext Iff.rfl
theorem u_chain : pChain f g e1 e2 e3 π t P E = e1 π t (fun x t1 => e2 π t1 (fun y t2 => f x y t2 (fun z t3 => match z with
  | .bl q => if q = true then e3 π t3 (fun w t4 => g y w t4 P E) E else P (.bl false) t3
  | _ => False) E) E) E := propext Iff.rfl
theorem u_addI : pAdd (.int i) (.int j) t P E = P (.int (i + j)) t := propext Iff.rfl
theorem u_addT : pAdd (.tup xs) (.tup ys) t P E = (xs.length + ys.length ≤ sizeLine ∧ P (.tup (xs ++ ys)) t) := propext Iff.rfl
theorem u_addL : pAdd (.lst xs) (.lst ys) t P E = (xs.length + ys.length ≤ sizeLine ∧ P (.lst (xs ++ ys)) t) := propext Iff.rfl
theorem u_subI : pSub (.int i) (.int j) t P E = P (.int (i - j)) t := propext Iff.rfl
theorem u_modI : pMod (.int i) (.int j) t P E = (0 < j ∧ P (.int (i % j)) t) := propext Iff.rfl
theorem u_divI : pDiv (.int i) (.int j) t P E = ((0 < j ∧ j.natAbs.log2 < 9000) ∧ P (.int (i / j)) t) := propext Iff.rfl
theorem u_mulI : pMul (.int i) (.int j) t P E = ((Builtin.Int.intBits i : Int) + (Builtin.Int.intBits j : Int) ≤ 134217728 ∧ P (.int (i * j)) t) := propext Iff.rfl
theorem u_mulL : pMul (.lst xs) (.int i) t P E = ((-(2 ^ 63) ≤ i ∧ i < 2 ^ 63 ∧ xs.length * i.toNat ≤ sizeLine) ∧ P (.lst (List.replicate i.toNat xs).flatten) t) := propext Iff.rfl
theorem u_ltI : pLt (.int i) (.int j) t P E = P (.bl (decide (i < j))) t := propext Iff.rfl
theorem u_leI : pLe (.int i) (.int j) t P E = P (.bl (decide (i ≤ j))) t := propext Iff.rfl
theorem u_le2I : pLe2 (.int i) (.int j) t P E = P (.bl (decide (i ≤ j))) t := propext Iff.rfl
theorem u_gtI : pGt (.int i) (.int j) t P E = P (.bl (decide (j < i))) t := propext Iff.rfl
theorem u_geI : pGe (.int i) (.int j) t P E = P (.bl (decide (j ≤ i))) t := propext Iff.rfl
theorem u_isN : pIs .non .non t P E = P (.bl true) t := propext ⟨fun h => h.2, fun h => ⟨rfl, h⟩⟩
theorem u_isNotN : pIsNot .non .non t P E = P (.bl false) t := propext ⟨fun h => h.2, fun h => ⟨rfl, h⟩⟩
theorem u_is {v : PV} : pIs v .non t P E = P (.bl (isNonP v)) t := propext ⟨fun h => h.2, fun h => ⟨rfl, h⟩⟩
theorem u_isNot {v : PV} : pIsNot v .non t P E = P (.bl (!isNonP v)) t := propext ⟨fun h => h.2, fun h => ⟨rfl, h⟩⟩
theorem u_nil : pNil π t Pa E = Pa [] t := propext Iff.rfl
theorem u_tup : pTup ms π t P E = ms π t (fun xs t1 => xs.length ≤ sizeLine ∧ P (.tup xs) t1) E := propext Iff.rfl
theorem u_lst : pLst ms π t P E = ms π t (fun xs t1 => xs.length ≤ sizeLine ∧ P (.lst xs) t1) E := propext Iff.rfl
theorem u_ixT : pIx (.tup xs) (.int i) t P E = ∃ v, atI xs i = some v ∧ P v t := propext Iff.rfl
theorem u_ixL : pIx (.lst xs) (.int i) t P E = ∃ v, atI xs i = some v ∧ P v t := propext Iff.rfl
theorem u_oNone : poNone π t Po' E = Po' none t := propext Iff.rfl
theorem u_oSome : poSome e π t Po' E = e π t (fun v t1 => match v with
  | .int i => Po' (some i) t1
  | _ => False) E := propext Iff.rfl
theorem u_sl {lo hi : PO} : pSl e lo hi π t P E = e π t (fun x t1 => lo π t1 (fun l t2 => hi π t2 (fun u t3 => pSlc x l u t3 P E) E) E) E := propext Iff.rfl
theorem u_slT {l u : Option Int} : pSlc (.tup xs) l u t P E = P (.tup (cutP xs l u)) t := propext Iff.rfl
theorem u_slL {l u : Option Int} : pSlc (.lst xs) l u t P E = P (.lst (cutP xs l u)) t := propext Iff.rfl
theorem u_tru : pTru e π t Pb E = e π t (fun x t1 => ∃ b, truP x = some b ∧ Pb b t1) E := propext Iff.rfl
theorem truP_bl {b : Bool} : truP (.bl b) = some b := rfl
theorem truP_tup : truP (.tup xs) = some (!xs.isEmpty) := rfl
theorem truP_lst : truP (.lst xs) = some (!xs.isEmpty) := rfl
theorem truP_int : truP (.int i) = some (i != 0) := rfl
theorem kind_non : kindP .non = some "NoneType" := rfl
theorem kind_bl {b : Bool} : kindP (.bl b) = some "bool" := rfl
theorem kind_int {i : Int} : kindP (.int i) = some "int" := rfl
theorem kind_str {s : Str} : kindP (.str s) = some "str" := rfl
theorem kind_tup : kindP (.tup xs) = some "tuple" := rfl
theorem kind_lst : kindP (.lst xs) = some "list" := rfl
theorem kind_tV {T : List (List Int)} : kindP (tV T) = some "tuple" := rfl
theorem kind_gV {l : List Int} : kindP (gV l) = some "tuple" := rfl
theorem u_isi {T : String} : pIsi T e π t P E = e π t (fun x t1 => ∃ k, kindP x = some k ∧ P (.bl (isiB k T)) t1) E := propext Iff.rfl
theorem u_call {F : PF} : pCall F ms π t P E = ms π t (fun xs t1 => F xs t1 P E) E := propext Iff.rfl
theorem u_fn1 {k : Nat} {F : PF} : pFn1 k F ms π t P E = ms π t (fun xs t1 => xs.length = k ∧ F xs t1 P E) E := propext Iff.rfl
theorem u_fnK {a b np : Nat} {is : List Nat} {dd : List PV} {F : PF} {mk : PA} : pFnK a b np is dd F ms mk π t P E = ms π t (fun xs t1 => mk π t1 (fun ys t2 =>
  (xs.length = a ∧ ys.length = b ∧ (pickL (xs ++ ys ++ dd) is).length = np) ∧ F (pickL (xs ++ ys ++ dd) is) t2 P E) E) E := propext Iff.rfl
theorem u_abs : pAbs [.int i] t P E = P (.int (if i < 0 then -i else i)) t := propext Iff.rfl
theorem u_min : pMin [.int i, .int j] t P E = P (.int (if j < i then j else i)) t := propext Iff.rfl
theorem u_max : pMax [.int i, .int j] t P E = P (.int (if j > i then j else i)) t := propext Iff.rfl
theorem u_boolI : pBool [.int i] t P E = P (.bl (i != 0)) t := propext Iff.rfl
theorem u_boolB {b : Bool} : pBool [.bl b] t P E = P (.bl b) t := propext Iff.rfl
theorem u_rg1 {F : Int → Int → W PV} : pRg1 F e π t P E = e π t (fun x t1 => match x with
  | .int n => F 0 n t1 P E
  | _ => False) E := propext Iff.rfl
theorem u_rg2 {F : Int → Int → W PV} : pRg2 F e1 e2 π t P E = e1 π t (fun x t1 => e2 π t1 (fun y t2 => match x, y with
  | .int a, .int b => F a b t2 P E
  | _, _ => False) E) E := propext Iff.rfl
theorem u_lstRg : pLstRg i j t P E = (RgOk i j ∧ P (.lst (rangeP i (j - i).toNat)) t) := propext Iff.rfl
theorem u_tupRg : pTupRg i j t P E = (RgOk i j ∧ P (.tup (rangeP i (j - i).toNat)) t) := propext Iff.rfl
def itemsK (v : PV) (K : List PV → Prop) : Prop := match v with
  | .tup xs => K xs
  | .lst xs => K xs
  | _ => False
theorem itemsK_tup {K : List PV → Prop} : itemsK (.tup xs) K = K xs := propext Iff.rfl
theorem itemsK_lst {K : List PV → Prop} : itemsK (.lst xs) K = K xs := propext Iff.rfl
theorem itemsK_gV {K : List PV → Prop} {l : List Int} : itemsK (gV l) K = K (l.map PV.int) := propext Iff.rfl
theorem itemsK_tV {K : List PV → Prop} {T : List (List Int)} : itemsK (tV T) K = K (T.map gV) := propext Iff.rfl
def valsK (v : PV) (K : List PV → Prop) : Prop := match v with
  | .dcx kvs => K (kvs.map (·.2))
  | _ => False
theorem valsK_dcx {kvs : List (NestedKey × PV)} {K : List PV → Prop} : valsK (.dcx kvs) K = K (kvs.map (·.2)) := propext Iff.rfl
theorem u_iVals : piVals e π t Pa E = e π t (fun v t1 => valsK v fun xs => Pa xs t1) E := propext Iff.rfl
theorem u_dict0 {i : Nat} {nx rt ct bk ex} : psDict0 i π t ⟨nx, rt, ct, bk, ex⟩ = nx (π.set i (.obj (.dl []))) t := propext Iff.rfl
theorem u_setd {i : Nat} {pk pm : PE} {nx rt ct bk ex} : psSetd i pk pm π t ⟨nx, rt, ct, bk, ex⟩ = ∃ kvs, π[i]? = some (.obj (.dl kvs)) ∧ pk π t (fun kv t1 => ∃ k, keyP kv = some k ∧ compat kvs k = true ∧ k.depth ≤ 8 ∧ kvs.length < sizeLine ∧
  pm (π.set i (.obj (.dl (if (lookD kvs k).isSome then kvs else kvs ++ [(k, [])])))) t1 (fun v t2 => ((lookD kvs k).getD []).length < sizeLine ∧ nx (π.set i (.obj (.dl (addD kvs k v)))) t2) noE) (fun y t1 => ex y π t1) := propext Iff.rfl
theorem u_look {i : Nat} : pLook i e π t P E = ∃ kvs, π[i]? = some (.obj (.dl kvs)) ∧ e (π.set i (.val (.dcx (kvs.map fun kv => (kv.1, .lst kv.2))))) t (fun v t1 => plainP v = true ∧ P v t1) noE := propext Iff.rfl
theorem u_minA : pMinA [.lst xs] t P E = ∃ ps v, mapO shP xs = some ps ∧ okSort ps = true ∧ xs[minAt ps]? = some v ∧ P v t := propext Iff.rfl
theorem u_pDict0 : pDict0 π t P E = P (.dct []) t := propext Iff.rfl
theorem u_pDict1 {k : L2.Key} : pDict1 k e π t P E = e π t (fun v t1 => P (.dct [(k, v)]) t1) E := propext Iff.rfl
theorem u_iAny : piAny e π t Pa E = e π t (fun v t1 => itemsK v fun xs => Pa xs t1) E := propext Iff.rfl
theorem u_iRng1 : piRng1 ms π t Pa E = ms π t (fun xs t1 => match xs with
  | [.int j] => (-(2 ^ 62) ≤ j ∧ j < 2 ^ 62) ∧ Pa (rangeP 0 j.toNat) t1
  | _ => False) E := propext Iff.rfl
theorem u_iRng2 : piRng2 ms π t Pa E = ms π t (fun xs t1 => match xs with
  | [.int i, .int j] => ((-(2 ^ 62) ≤ i ∧ i < 2 ^ 62) ∧ (-(2 ^ 62) ≤ j ∧ j < 2 ^ 62)) ∧ Pa (rangeP i (j - i).toNat) t1
  | _ => False) E := propext Iff.rfl
def itemsL (xs : List PV) (K : List PV → Prop) : Prop := match xs with
  | [v] => itemsK v K
  | _ => False
theorem itemsL_one {v : PV} {K : List PV → Prop} : itemsL [v] K = itemsK v K := propext Iff.rfl
theorem u_iEnum : piEnum ms π t Pa E = ms π t (fun xs t1 => itemsL xs fun vs => Pa (enumP 0 vs) t1) E := by
  have e : (fun (xs : List PV) (t1 : Int) => (match xs with
  | [.tup vs] => Pa (enumP 0 vs) t1
  | [.lst vs] => Pa (enumP 0 vs) t1
  | _ => False)) = fun xs t1 => itemsL xs fun vs => Pa (enumP 0 vs) t1 := by
    funext xs t1
    match xs with
    | [] => rfl
    | [v] => cases v <;> rfl
    | v :: _ :: _ => cases v <;> rfl
  unfold piEnum
  exact congrArg (fun z => ms π t z E) e
theorem u_iZip : piZip ms π t Pa E = ms π t (fun xs t1 => match xs with
  | [.tup a, .tup b] => Pa (zipP a b) t1
  | [.lst a, .lst b] => Pa (zipP a b) t1
  | _ => False) E := propext Iff.rfl
theorem u_comp {mi : PI} {bnd : PBnd} {vs : List Nat} : pComp mi bnd vs tm e π t P E = mi π t (fun items t1 => compW bnd tm e (wipeP π vs) [] items t1 (fun acc t2 => P (.lst acc) t2) E) E := propext Iff.rfl
theorem u_take {n : Int} : pTake [.deck, .int n] t P E = ((1 ≤ n ∧ n < 1000000000000 ∧ t < 1000000000000) ∧ ∀ i, 0 ≤ i → i < n → P (.int i) (t + 1)) := propext Iff.rfl
theorem u_neS {a b : Str} : pNe (.str a) (.str b) t P E = P (.bl (!(a == b))) t := propext Iff.rfl
theorem u_eqS {a b : Str} : pEq (.str a) (.str b) t P E = P (.bl (a == b)) t := propext Iff.rfl
end
theorem u_ixW0 {h : Int} {m : Str} {Ts : List (List (List Int))} : pIx (wV h m Ts) (.int 0) t P E = P (.int h) t := by unfold wV; rw [u_ixT, atI_0]; simp
theorem u_ixW1 {h : Int} {m : Str} {Ts : List (List (List Int))} : pIx (wV h m Ts) (.int 1) t P E = P (.str m) t := by unfold wV; rw [u_ixT, atI_1]; simp
theorem u_ixW2 {h : Int} {m : Str} {Ts : List (List (List Int))} : pIx (wV h m Ts) (.int 2) t P E = P (.tup (Ts.map tV)) t := by unfold wV; rw [u_ixT, atI_2]; simp
theorem fold_w (h : Int) (m : Str) (Ts : List (List (List Int))) : PV.tup [.int h, .str m, .tup (Ts.map tV)] = wV h m Ts := by unfold wV; rfl
theorem sl_1 : 1 ≤ sizeLine := by rw [sl_eq]; omega
theorem sl_2 : 2 ≤ sizeLine := by rw [sl_eq]; omega
theorem sl_3 : 3 ≤ sizeLine := by rw [sl_eq]; omega
theorem sl_4 : 4 ≤ sizeLine := by rw [sl_eq]; omega
theorem sl_5 : 5 ≤ sizeLine := by rw [sl_eq]; omega
theorem sl_6 : 6 ≤ sizeLine := by rw [sl_eq]; omega
theorem sl_7 : 7 ≤ sizeLine := by rw [sl_eq]; omega
/-! ### ways -/
theorem asc_len : ∀ (l : List Int) (a b : Int), l.Pairwise (· < ·) → (∀ x ∈ l, a ≤ x ∧ x ≤ b) → (l.length : Int) ≤ max 0 (b - a + 1)
  | [], a, b, _, _ => by simp; omega
  | x :: l, a, b, hp, hx => by
    have h1 := hx x List.mem_cons_self
    have IH := asc_len l (x + 1) b (List.pairwise_cons.mp hp).2 fun y hy => ⟨by have := (List.pairwise_cons.mp hp).1 y hy; omega, (hx y (List.mem_cons_of_mem _ hy)).2⟩
    rw [List.length_cons]; push_cast; omega
theorem gs_small {h : Nat} (hh : h ≤ 5) {g : List Int} (hg : GrpI h g) : g.length ≤ 5 ∧ ∀ x ∈ g, 0 ≤ x ∧ x < 5 := by
  have z := asc_len g 0 ((h : Int) - 1) hg.1 hg.2
  exact ⟨by omega, fun x hx => by have := hg.2 x hx; omega⟩
theorem nice_gV {h : Nat} (hh : h ≤ 5) {g : List Int} (hg : GrpI h g) : Nice 1 55 (gV g) := by
  obtain ⟨h1, h2⟩ := gs_small hh hg
  refine nice_tup (k := 0) (w := 10) (n := 5) (fun v hv => ?_) (by simpa using h1)
  obtain ⟨x, hx, rfl⟩ := List.mem_map.mp hv
  have := h2 x hx
  exact nice_int (by omega)
structure IsT (h : Nat) (n : Nat) (T : List (List Int)) : Prop where
  len : T.length = n
  srt : sortI T = T
  mem : ∀ g ∈ T, GrpI h g
structure IsW (h : Nat) (m : Str) (n : Nat) (Ts : List (List (List Int))) : Prop where
  h1 : 1 ≤ h
  h5 : h ≤ 5
  md : m = "any" ∨ m = "odd"
  c2 : 2 ≤ Ts.length
  c4 : Ts.length ≤ 4
  n1 : 1 ≤ n
  n4 : n ≤ 400
  tb : ∀ T ∈ Ts, IsT h n T
theorem IsW.ne {h : Nat} {m : Str} {n : Nat} {Ts : List (List (List Int))} (w : IsW h m n Ts) : Ts ≠ [] := by
  intro e; have := w.c2; rw [e] at this; simp at this
theorem nice_tV {h n : Nat} {T : List (List Int)} (hh : h ≤ 5) (w : IsT h n T) (hn : n ≤ 400) : Nice 2 22400 (tV T) := by
  refine nice_tup (k := 1) (w := 55) (n := 400) (fun v hv => ?_) (by rw [List.length_map, w.len]; exact hn)
  obtain ⟨g, hg, rfl⟩ := List.mem_map.mp hv
  exact nice_gV hh (w.mem g hg)
theorem nice_mode {m : Str} (h : m = "any" ∨ m = "odd") : Nice 0 10 (.str m) := by
  rcases h with rfl | rfl
  · exact nice_any
  · exact nice_odd
theorem nice_wV {h : Nat} {m : Str} {n : Nat} {Ts : List (List (List Int))} (w : IsW h m n Ts) : Nice 4 90000 (wV h m Ts) := by
  have h5 := w.h5
  have t1 : Nice 3 (22401 * 4) (.tup (Ts.map tV)) := nice_tup (k := 2) (w := 22400) (n := 4) (fun v hv => by
    obtain ⟨T, hT, rfl⟩ := List.mem_map.mp hv
    exact nice_tV w.h5 (w.tb T hT) w.n4) (by rw [List.length_map]; exact w.c4)
  exact nice_tupL (k := 3) ((niceL_cons ((nice_int (i := (h : Int)) (by omega)).weak (Nat.zero_le _) (Nat.le_refl _)) (niceL_cons ((nice_mode w.md).weak (Nat.zero_le _) (Nat.le_refl _)) (niceL_cons t1 niceL_nil))).weak (by omega))
theorem nice_ways {vs : List PV} (h : ∀ v ∈ vs, ∃ (h : Nat) (m : Str) (n : Nat) (Ts : List (List (List Int))), v = wV h m Ts ∧ IsW h m n Ts) (hl : vs.length ≤ 10) : Nice 5 (90001 * 10) (.lst vs) :=
  nice_lst (k := 4) (w := 90000) (n := 10) (fun v hv => by
    obtain ⟨_, _, _, _, rfl, w⟩ := h v hv
    exact nice_wV w) hl
end
end RP

namespace RP
open PySem PySem.Spec PyProof.Rows L2 RL

/-! ### groups: parts, order -/
def sub (a b : List Int) : Bool := a.all fun x => decide (x ∈ b)
theorem sub_iff {a b : List Int} : sub a b = true ↔ ∀ x ∈ a, x ∈ b := by
  unfold sub; rw [List.all_eq_true]
  exact ⟨fun h x hx => by simpa using h x hx, fun h x hx => by simpa using h x hx⟩
theorem asc_sub : ∀ (o g : List Int), o.Pairwise (· < ·) → g.Pairwise (· < ·) → (∀ x ∈ g, x ∈ o) → g.Sublist o
  | [], [], _, _, _ => List.Sublist.slnil
  | [], x :: g, _, _, h => by have := h x List.mem_cons_self; cases this
  | y :: o, [], _, _, _ => List.nil_sublist _
  | y :: o, x :: g, ho, hg, h => by
    obtain ⟨o1, o2⟩ := List.pairwise_cons.mp ho
    obtain ⟨g1, g2⟩ := List.pairwise_cons.mp hg
    by_cases e : x = y
    · subst e
      refine (asc_sub o g o2 g2 fun z hz => ?_).cons₂ x
      have := g1 z hz
      rcases List.mem_cons.mp (h z (List.mem_cons_of_mem _ hz)) with q | q
      · omega
      · exact q
    · have hx : y < x := by
        rcases List.mem_cons.mp (h x List.mem_cons_self) with q | q
        · exact absurd q e
        · exact o1 x q
      refine (asc_sub o (x :: g) o2 hg fun z hz => ?_).cons y
      have hz2 : x ≤ z := by
        rcases List.mem_cons.mp hz with q | q
        · omega
        · have := g1 z q; omega
      rcases List.mem_cons.mp (h z hz) with q | q
      · omega
      · exact q
theorem sub_len {a b : List Int} (ha : a.Pairwise (· < ·)) (hb : b.Pairwise (· < ·)) (h : sub a b = true) : a.length ≤ b.length := (asc_sub b a hb ha (sub_iff.mp h)).length_le
theorem sub_eq {a b : List Int} (ha : a.Pairwise (· < ·)) (hb : b.Pairwise (· < ·)) (h : sub a b = true) (hl : b.length ≤ a.length) : a = b := (asc_sub b a hb ha (sub_iff.mp h)).eq_of_length (Nat.le_antisymm (sub_len ha hb h) hl)
theorem sub_trans {a b c : List Int} (h1 : sub a b = true) (h2 : sub b c = true) : sub a c = true := sub_iff.mpr fun x hx => sub_iff.mp h2 x (sub_iff.mp h1 x hx)
/-- all groups: strictly ascending, () first -/
theorem goG_nodup : ∀ (ns : List Int) (found : List (List Int)), ns.Pairwise (· < ·) → found.Nodup → (∀ l ∈ found, ∀ x ∈ l, ∀ n ∈ ns, x < n) → (goG found ns).Nodup
  | [], found, _, h, _ => h
  | n :: ns, found, hp, h, hx => by
    obtain ⟨p1, p2⟩ := List.pairwise_cons.mp hp
    refine goG_nodup ns _ p2 (List.nodup_append.mpr ⟨h, ?_, fun a ha b hb e => ?_⟩) fun l hl x hxl m hm => ?_
    · unfold List.Nodup
      rw [List.pairwise_map]
      exact h.imp fun {a b} hab e => hab (List.append_cancel_right e)
    · subst e
      obtain ⟨l, hl, rfl⟩ := List.mem_map.mp hb
      have := hx _ ha n (by simp) n List.mem_cons_self
      omega
    · rcases List.mem_append.mp hl with z | z
      · exact hx l z x hxl m (List.mem_cons_of_mem _ hm)
      · obtain ⟨l', hl', rfl⟩ := List.mem_map.mp z
        rcases List.mem_append.mp hxl with q | q
        · exact hx l' hl' x q m (List.mem_cons_of_mem _ hm)
        · rw [List.mem_singleton.mp q]; exact p1 m hm
theorem upto_asc (h : Nat) : (upto h).Pairwise (· < ·) := (upto_grp h).1
theorem parts_nodup (h : Nat) : (partsI (upto h)).Nodup := by
  unfold partsI
  rw [(sortI_sort _).nodup_iff]
  exact goG_nodup _ _ (upto_asc h) (by simp) fun l hl x hx => by
    rw [List.mem_singleton.mp hl] at hx; cases hx
abbrev ltG (a b : List Int) : Prop := HT.lexLt a b = true
theorem parts_asc (h : Nat) : (partsI (upto h)).Pairwise ltG := by
  have h1 : (partsI (upto h)).Pairwise fun a b => leI a b = true := by unfold partsI sortI; exact List.pairwise_mergeSort leI_trans leI_total _
  have h2 := parts_nodup h
  unfold List.Nodup at h2
  refine (h1.and h2).imp fun {a b} ⟨q, n⟩ => ?_
  rw [leI_eq] at q
  simp only [Bool.not_eq_true'] at q
  cases e : HT.lexLt a b with
  | true => exact e
  | false => exact absurd (lexLt_asym a b e q) n
theorem goG_nil : ∀ (ns : List Int) (found : List (List Int)), [] ∈ found → [] ∈ goG found ns
  | [], _, h => h
  | n :: ns, found, h => goG_nil ns _ (List.mem_append_left _ h)
theorem parts_head (h : Nat) : ∃ R, partsI (upto h) = [] :: R ∧ ∀ g ∈ R, g ≠ [] := by
  have hm : [] ∈ partsI (upto h) := by unfold partsI; exact sortI_memm.mpr (goG_nil _ _ (by simp))
  have ha := parts_asc h
  cases hp : partsI (upto h) with
  | nil => rw [hp] at hm; cases hm
  | cons x R =>
    rw [hp] at hm ha
    have h1 := (List.pairwise_cons.mp ha).1
    have hx : x = [] := by
      rcases List.mem_cons.mp hm with q | q
      · exact q.symm
      · have := h1 [] q
        cases x with
        | nil => rfl
        | cons y ys => cases this
    subst hx
    refine ⟨R, rfl, fun g hg e => ?_⟩
    subst e
    have := h1 [] hg
    cases this
theorem parts_mem_grp {h : Nat} {g : List Int} (hg : g ∈ partsI (upto h)) : GrpI h g := parts_grp (upto_grp h) hg
section
variable {t : Int} {P : PV → Int → Prop} {E : PX → Int → Prop} {α : Type}
/-! ### groups compared -/
theorem eqv_tup (a b : List Int) : PyData.eqv (.tuple (a.map PyData.int)) (.tuple (b.map PyData.int)) = decide (a = b) := by
  unfold PyData.eqv; exact eqv_intsL a b
theorem shP_gV (a : List Int) : shP (gV a) = some (.tuple (a.map PyData.int)) := sh_gV 38 a
theorem w_eqG {a b : List Int} : pEq (gV a) (gV b) t P E = P (.bl (decide (a = b))) t := by
  have h1 := shP_gV a
  have h2 := shP_gV b
  have e : pEq (gV a) (gV b) t P E = ∃ d e, shP (gV a) = some d ∧ shP (gV b) = some e ∧ SeqAt.shaped d = true ∧ SeqAt.shaped e = true ∧ P (.bl (PyData.eqv d e)) t := by
    unfold gV; rfl
  rw [e, h1, h2]
  refine propext ⟨?_, fun z => ⟨_, _, rfl, rfl, shaped_intsT a, shaped_intsT b, by rw [eqv_tup]; exact z⟩⟩
  rintro ⟨d, e, z1, z2, _, _, z⟩
  cases z1; cases z2
  rw [eqv_tup] at z; exact z
theorem w_neG {a b : List Int} : pNe (gV a) (gV b) t P E = P (.bl (!decide (a = b))) t := by
  have h1 := shP_gV a
  have h2 := shP_gV b
  have e : pNe (gV a) (gV b) t P E = ∃ d e, shP (gV a) = some d ∧ shP (gV b) = some e ∧ SeqAt.shaped d = true ∧ SeqAt.shaped e = true ∧ P (.bl (!PyData.eqv d e)) t := by
    unfold gV; rfl
  rw [e, h1, h2]
  refine propext ⟨?_, fun z => ⟨_, _, rfl, rfl, shaped_intsT a, shaped_intsT b, by rw [eqv_tup]; exact z⟩⟩
  rintro ⟨d, e, z1, z2, _, _, z⟩
  cases z1; cases z2
  rw [eqv_tup] at z; exact z
theorem w_eqG0 {a : List Int} : pEq (gV a) (.tup []) t P E = P (.bl (decide (a = []))) t := w_eqG (b := [])
theorem w_neG0 {a : List Int} : pNe (gV a) (.tup []) t P E = P (.bl (!decide (a = []))) t := w_neG (b := [])
/-- a list beside the empty one -/
theorem eqv_nil : ∀ ps : List PyData, PyData.eqv (.list ps) (.list []) = ps.isEmpty
  | [] => rfl
  | _ :: _ => rfl
theorem mapO_emp {f : PV → Option PyData} : ∀ {vs : List PV} {ps : List PyData}, mapO f vs = some ps → ps.isEmpty = vs.isEmpty
  | [], _, e => by unfold mapO at e; cases e; rfl
  | v :: vs, ps, e => by
    unfold mapO at e
    cases h1 : f v with
    | none => rw [h1] at e; cases e
    | some y =>
      cases h2 : mapO f vs with
      | none => rw [h1, h2] at e; cases e
      | some ys => rw [h1, h2] at e; cases e; rfl
theorem nil_core {k w : Nat} {vs : List PV} (h : NiceL k w vs) (hk : k ≤ 12) : ∃ ps, shP (.lst vs) = some (.list ps) ∧ SeqAt.shaped (.list ps) = true ∧ ps.isEmpty = vs.isEmpty := by
  have hn := nice_lstL h
  obtain ⟨ps, a, b, c, d, e, f⟩ := h
  have h1 := a 39 (by omega)
  refine ⟨ps, ?_, ?_, mapO_emp h1⟩
  · show shO (39 + 1) (.lst vs) = _
    unfold shO; rw [h1]; rfl
  · unfold SeqAt.shaped PyData.canLay0 PyData.depth
    rw [f]
    simp only [Bool.true_and, decide_eq_true_eq]
    omega
theorem w_eqNil {k w : Nat} {vs : List PV} (h : NiceL k w vs) (hk : k ≤ 12) : pEq (.lst vs) (.lst []) t P E = P (.bl vs.isEmpty) t := by
  obtain ⟨ps, h1, h2, h3⟩ := nil_core h hk
  refine propext ⟨?_, fun z => ⟨_, _, h1, rfl, h2, rfl, by rw [eqv_nil, h3]; exact z⟩⟩
  rintro ⟨d, e, z1, z2, _, _, z⟩
  rw [h1] at z1; cases z1; cases z2
  rw [eqv_nil, h3] at z; exact z
theorem w_neNil {k w : Nat} {vs : List PV} (h : NiceL k w vs) (hk : k ≤ 12) : pNe (.lst vs) (.lst []) t P E = P (.bl (!vs.isEmpty)) t := by
  obtain ⟨ps, h1, h2, h3⟩ := nil_core h hk
  refine propext ⟨?_, fun z => ⟨_, _, h1, rfl, h2, rfl, by rw [eqv_nil, h3]; exact z⟩⟩
  rintro ⟨d, e, z1, z2, _, _, z⟩
  rw [h1] at z1; cases z1; cases z2
  rw [eqv_nil, h3] at z; exact z
/-- a group in a list of groups -/
theorem any_eqv (g : List Int) : ∀ L : List (List Int), ((L.map fun l => PyData.tuple (l.map PyData.int)).any fun z => PyData.eqv z (.tuple (g.map PyData.int))) = decide (g ∈ L)
  | [] => rfl
  | l :: L => by
    rw [List.map_cons, List.any_cons, any_eqv g L, eqv_tup]
    by_cases h : l = g
    · subst h; simp
    · have h' : ¬ g = l := fun z => h z.symm
      by_cases h2 : g ∈ L <;> simp [h, h', h2]
theorem shaped_gs (L : List (List Int)) : SeqAt.shaped (.list (L.map fun l => .tuple (l.map PyData.int))) = true := by
  have h1 : PyData.canLayAll0 (L.map fun l => .tuple (l.map PyData.int)) = true := by
    induction L with
    | nil => rfl
    | cons l L ih =>
      rw [List.map_cons]; unfold PyData.canLayAll0; rw [ih]
      unfold PyData.canLay0; rw [canLay_ints]; rfl
  have h2 : PyData.depthAll (L.map fun l => .tuple (l.map PyData.int)) ≤ 1 := by
    clear h1
    induction L with
    | nil => exact Nat.zero_le _
    | cons l L ih =>
      rw [List.map_cons]; unfold PyData.depthAll
      have : PyData.depth (.tuple (l.map PyData.int)) = 1 := by unfold PyData.depth; rw [depth_ints]
      omega
  unfold SeqAt.shaped PyData.canLay0 PyData.depth
  rw [h1]
  simp only [Bool.true_and, decide_eq_true_eq]
  omega
theorem in_core {g : List Int} {L : List (List Int)} {K : Bool → Prop} : inP (gV g) (.lst (L.map gV)) K = K (decide (g ∈ L)) := by
  have h1 := shP_gV g
  have h2 : shP (.lst (L.map gV)) = some (.list (L.map fun l => .tuple (l.map PyData.int))) := by
    show shO (39 + 1) _ = _
    unfold shO
    rw [sh_gVs 37 L]; rfl
  unfold inP
  refine propext ⟨?_, fun z => ⟨_, rfl, .inr ⟨_, _, _, _, rfl, rfl, h1, h2, shaped_intsT g, shaped_gs L, by rw [any_eqv]; exact z⟩⟩⟩
  rintro ⟨ys, e, ⟨z, _⟩ | ⟨us, zs, d, ds, e1, e2, s1, s2, _, _, z⟩⟩
  · cases z
  · cases e1; cases e2
    rw [h1] at s1; cases s1
    rw [h2] at s2; cases s2
    rw [any_eqv] at z; exact z
theorem w_inGs {g : List Int} {L : List (List Int)} : pIn (gV g) (.lst (L.map gV)) t P E = P (.bl (decide (g ∈ L))) t := in_core
theorem w_notInGs {g : List Int} {L : List (List Int)} : pNotIn (gV g) (.lst (L.map gV)) t P E = P (.bl (!decide (g ∈ L))) t := in_core
/-! ### rules -/
def rV (h : Int) (S H : List (List Int)) : PV := .tup [.int h, tV S, tV H]
theorem niceL_gs {h : Nat} (hh : h ≤ 5) {L : List (List Int)} (hL : ∀ g ∈ L, GrpI h g) : NiceL 1 (56 * L.length) (L.map gV) := by
  have := niceL_all (k := 1) (w := 55) (vs := L.map gV) fun v hv => by
    obtain ⟨g, hg, rfl⟩ := List.mem_map.mp hv
    exact nice_gV hh (hL g hg)
  rw [List.length_map] at this
  exact this
theorem nice_tVs {h : Nat} (hh : h ≤ 5) {L : List (List Int)} (hL : ∀ g ∈ L, GrpI h g) (hl : L.length ≤ 1000) : Nice 2 56000 (tV L) := (nice_tupL (niceL_gs hh hL)).weak (Nat.le_refl _) (by omega)
theorem nice_rV {h : Nat} (hh : h ≤ 5) {S H : List (List Int)} (hS : ∀ g ∈ S, GrpI h g) (hH : ∀ g ∈ H, GrpI h g) (l1 : S.length ≤ 1000) (l2 : H.length ≤ 1000) : Nice 3 112020 (rV h S H) :=
  nice_tupL (k := 2) ((niceL_cons ((nice_int (i := (h : Int)) (by omega)).weak (Nat.zero_le _) (Nat.le_refl _)) (niceL_cons (nice_tVs hh hS l1) (niceL_cons (nice_tVs hh hH l2) niceL_nil))).weak (by omega))
theorem fold_r (h : Int) (S H : List (List Int)) : PV.tup [.int h, tV S, tV H] = rV h S H := by unfold rV; rfl
theorem cut_from1 {α : Type} (xs : List α) : cutP xs (some 1) none = xs.drop 1 := by
  unfold cutP
  rw [HT.sIx_none, show HT.sIx xs.length 0 (some 1) = min 1 xs.length from HT.sIx_nat xs.length 0 1]
  cases xs with
  | nil => rfl
  | cons x xs => simp
theorem cut_to {α : Type} (xs : List α) (i : Nat) : cutP xs none (some (i : Int)) = xs.take i := by
  unfold cutP
  rw [HT.sIx_none, HT.sIx_nat xs.length xs.length i, Nat.sub_zero, List.drop_zero]
  by_cases h : i ≤ xs.length
  · rw [Nat.min_eq_left h]
  · rw [Nat.min_eq_right (by omega), List.take_of_length_le (Nat.le_refl _), List.take_of_length_le (by omega)]
theorem filter_emp {p : α → Bool} : ∀ l : List α, (!(l.filter p).isEmpty) = l.any p
  | [] => rfl
  | x :: l => by
    rw [List.any_cons]
    by_cases h : p x = true
    · rw [List.filter_cons_of_pos h]; simp [h]
    · rw [List.filter_cons_of_neg h, filter_emp l]; simp [h]
end
end RP

namespace RP
open PySem PySem.Spec PyProof.Rows L2 RL

section
variable {t : Int} {P : PV → Int → Prop} {E : PX → Int → Prop} {α β : Type}
/-! ### ints sorted -/
theorem sort_intsP (ns : List Int) : (ns.map PV.int).mergeSort leP = (sortN ns).map PV.int := by
  unfold sortN
  refine (List.map_mergeSort fun a _ b _ => ?_).symm
  have e : leP (.int a) (.int b) = leD [] (.int a) (.int b) := rfl
  rw [e, leD_int]
theorem sh_intsN : ∀ l : List Int, mapO (shO 40) (l.map PV.int) = some (l.map PyData.int) := fun l => sh_ints 39 l
theorem w_sortNL (ns : List Int) : pSorted [.lst (ns.map PV.int)] t P E = P (.lst ((sortN ns).map PV.int)) t := by
  unfold pSorted
  simp only
  rw [sort_intsP]
  exact propext ⟨fun ⟨_, _, _, z⟩ => z, fun z => ⟨_, sh_intsN ns, okSort_ints ns, z⟩⟩
theorem w_sortNT (ns : List Int) : pSorted [.tup (ns.map PV.int)] t P E = P (.lst ((sortN ns).map PV.int)) t := by
  unfold pSorted
  simp only
  rw [sort_intsP]
  exact propext ⟨fun ⟨_, _, _, z⟩ => z, fun z => ⟨_, sh_intsN ns, okSort_ints ns, z⟩⟩
theorem w_sortNG (ns : List Int) : pSorted [gV ns] t P E = P (.lst ((sortN ns).map PV.int)) t := by unfold gV; exact w_sortNT ns
theorem w_sortTV (T : List (List Int)) : pSorted [tV T] t P E = P (.lst ((sortI T).map gV)) t := by unfold tV; exact w_sortT T
/-! ### items by number -/
theorem atI_m (enc : α → PV) {l : List α} {i : Nat} (h : i < l.length) : atI (l.map enc) (i : Int) = some (enc l[i]) := by
  rw [atI_nat (by simpa using h)]; simp
theorem w_ixT (enc : α → PV) {l : List α} {i : Nat} (h : i < l.length) : pIx (.tup (l.map enc)) (.int (i : Int)) t P E = P (enc l[i]) t := by
  show (∃ v, atI (l.map enc) (i : Int) = some v ∧ P v t) = _
  rw [atI_m enc h]
  simp only [Option.some.injEq, exists_eq_left']
theorem w_ixL (enc : α → PV) {l : List α} {i : Nat} (h : i < l.length) : pIx (.lst (l.map enc)) (.int (i : Int)) t P E = P (enc l[i]) t := by
  show (∃ v, atI (l.map enc) (i : Int) = some v ∧ P v t) = _
  rw [atI_m enc h]
  simp only [Option.some.injEq, exists_eq_left']
theorem w_ixTV {T : List (List Int)} {i : Nat} (h : i < T.length) : pIx (tV T) (.int (i : Int)) t P E = P (gV T[i]) t := by unfold tV; exact w_ixT gV h
theorem w_ixGV {T : List Int} {i : Nat} (h : i < T.length) : pIx (gV T) (.int (i : Int)) t P E = P (.int T[i]) t := by unfold gV; exact w_ixT PV.int h
theorem w_ix0 (enc : α → PV) {l : List α} (h : 0 < l.length) : pIx (.tup (l.map enc)) (.int 0) t P E = P (enc l[0]) t := w_ixT enc (i := 0) h
theorem w_ix1 (enc : α → PV) {l : List α} (h : 1 < l.length) : pIx (.tup (l.map enc)) (.int 1) t P E = P (enc l[1]) t := w_ixT enc (i := 1) h
/-! ### lists of lists -/
theorem set_back {π : PEnv} {i : Nat} {s : PSlot} (h : π[i]? = some s) : π.set i s = π := by
  obtain ⟨hl, e⟩ := List.getElem?_eq_some_iff.mp h
  rw [← e]; exact List.set_getElem_self hl
theorem set_twice {π : PEnv} {i j : Nat} {a b c d : PSlot} (h : i ≠ j) : ((((π.set j a).set i b).set j c).set i d) = (π.set j c).set i d := by
  rw [List.set_comm (a := b) (b := c) h, List.set_set, List.set_set]
theorem forAdd_draw {app : Bool} {i j : Nat} {e : PE} {Q : PPs} {c : Int} (hc : 0 ≤ c) {R : List PV → Prop} {π0 : PEnv} (hij : i ≠ j) : ∀ (rest done : List (List PV)) (π : PEnv) (t : Int), π.set j .no = (π0.set j .no).set i (.obj (.lsts (done ++ rest))) →
    (∀ vs ∈ rest, ∀ ws, R ws → vs.length + ws.length ≤ sizeLine) →
    (∀ cur t' K, t' ≤ t + c * rest.length → (∀ v ws t'', addV app v = some ws → R ws → t'' ≤ t' + c → K v t'') → e ((π0.set j .no).set i (.obj (.lsts cur))) t' K fun y t1 => Q.ex y ((π0.set j .no).set i (.obj (.lsts cur))) t1) →
    (∀ wss t', wss.length = rest.length → (∀ ws ∈ wss, R ws) → t' ≤ t + c * rest.length → Q.nx ((if rest = [] then π else (π0.set j .no).set i (.obj (.lsts (done ++ List.zipWith (· ++ ·) rest wss))))) t') → forAddW app i j e Q done rest π t
  | [], done, π, t, eπ, hs, he, hQ => by
    unfold forAddW
    have := hQ [] t rfl (fun _ h => by cases h) (by simp)
    rw [if_pos rfl] at this
    exact this
  | vs :: rest, done, π, t, eπ, hs, he, hQ => by
    unfold forAddW
    have hmul : c * ((vs :: rest).length : Int) = c * rest.length + c := by
      rw [List.length_cons]; push_cast; rw [Int.mul_add]; omega
    have hcl : 0 ≤ c * (rest.length : Int) := Int.mul_nonneg hc (by omega)
    rw [eπ]
    refine he _ t _ (by rw [hmul]; omega) fun v ws t1 ea hr ht => ⟨ws, ea, hs vs List.mem_cons_self ws hr, ?_⟩
    have e2 : ((π0.set j .no).set i (.obj (.lsts (done ++ vs :: rest)))).set i (.obj (.lsts (done ++ (vs ++ ws) :: rest))) = (π0.set j .no).set i (.obj (.lsts (done ++ (vs ++ ws) :: rest))) := by rw [List.set_set]
    rw [e2]
    refine forAdd_draw hc hij rest (done ++ [vs ++ ws]) _ t1 ?_ (fun us hu => hs us (List.mem_cons_of_mem _ hu)) (fun cur t' K h' => he cur t' K (by rw [hmul]; omega)) fun wss t2 h1 h2 h3 => ?_
    · rw [List.set_comm _ _ hij, List.set_set]
      simp
    · have := hQ (ws :: wss) t2 (by simp [h1]) (fun q hq => by
        rcases List.mem_cons.mp hq with rfl | hq
        · exact hr
        · exact h2 q hq) (by rw [hmul]; omega)
      rw [if_neg (by simp)] at this
      by_cases hn : rest = []
      · subst hn
        have hw : wss = [] := List.length_eq_zero_iff.mp (by simpa using h1)
        subst hw
        rw [if_pos rfl]
        simpa using this
      · rw [if_neg hn]
        have e3 : done ++ [vs ++ ws] ++ List.zipWith (fun x1 x2 => x1 ++ x2) rest wss = done ++ List.zipWith (fun x1 x2 => x1 ++ x2) (vs :: rest) (ws :: wss) := by simp
        rw [e3]; exact this
theorem owns_const {i : Nat} {e : PE} {π : PEnv} {vs : List PV} {P : List (List PV) → Int → Prop} : ∀ (xs : List PV) (acc : List (List PV)), acc.length + xs.length ≤ sizeLine → (∀ x ∈ xs, ∀ t K, e (π.set i (.val x)) t K noE = K (.lst vs) t) →
    ownsW (pbNm i) e π acc xs t P noE = P (acc ++ List.replicate xs.length vs) t
  | [], acc, _, _ => by
    unfold ownsW
    simp
  | x :: xs, acc, hl, he => by
    rw [List.length_cons] at hl
    unfold ownsW
    simp only [pbNm, Option.some.injEq, exists_eq_left', he x List.mem_cons_self]
    rw [owns_const xs (acc ++ [vs]) (by simp; omega) fun y hy => he y (List.mem_cons_of_mem _ hy)]
    have e1 : acc ++ [vs] ++ List.replicate xs.length vs = acc ++ List.replicate (x :: xs).length vs := by
      rw [List.length_cons, List.replicate_succ]; simp
    rw [e1]
    exact propext ⟨fun z => z.2, fun z => ⟨by omega, z⟩⟩
/-! ### a part of so many, light -/
abbrev LL := List (List Int)
abbrev LLL := List (List (List Int))
def blk (d g : List Int) : Nat := (g.filter fun x => decide (x ∈ d)).length
def darkB (m : Str) (d g : List Int) : Bool := if m = "odd" then decide (blk d g % 2 = 1) else decide (0 < blk d g)
def lightN (m : Str) (T : List (List Int)) (g : List Int) : Nat := (T.filter fun d => !darkB m d g).length
theorem lightN_le (m : Str) (T : List (List Int)) (g : List Int) : lightN m T g ≤ T.length := List.length_filter_le _ _
def pSelC (c : PT) (a b : PV) : PE := fun π t P E => c π t (fun v t1 => P (if v = true then a else b) t1) E
theorem ifCC {c : PT} {a b : PV} : pIf c (pC a) (pC b) = pSelC c a b := by
  unfold pIf pC pSelC
  funext π t P E
  congr 1
  funext v t1
  cases v <;> simp
theorem u_selC {c : PT} {a b : PV} {π : PEnv} : pSelC c a b π t P E = c π t (fun v t1 => P (if v = true then a else b) t1) E := propext Iff.rfl
theorem enumP_len : ∀ (k : Nat) (vs : List PV), (enumP k vs).length = vs.length
  | _, [] => rfl
  | k, v :: vs => by unfold enumP; rw [List.length_cons, List.length_cons, enumP_len (k + 1) vs]
theorem u_mul2 {a : PV} : pMul (.lst [a]) (.int 2) t P E = P (.lst [a, a]) t := by
  show ((-(2 ^ 63) ≤ (2 : Int) ∧ (2 : Int) < 2 ^ 63 ∧ [a].length * (2 : Int).toNat ≤ sizeLine) ∧ P (.lst [a, a]) t) = _
  exact propext ⟨fun z => z.2, fun z => ⟨⟨by decide, by decide, by rw [sl_eq]; exact (by decide : 1 * 2 ≤ 16777216)⟩, z⟩⟩
theorem u_mul3 {a : PV} : pMul (.lst [a]) (.int 3) t P E = P (.lst [a, a, a]) t := by
  show ((-(2 ^ 63) ≤ (3 : Int) ∧ (3 : Int) < 2 ^ 63 ∧ [a].length * (3 : Int).toNat ≤ sizeLine) ∧ P (.lst [a, a, a]) t) = _
  exact propext ⟨fun z => z.2, fun z => ⟨⟨by decide, by decide, by rw [sl_eq]; exact (by decide : 1 * 3 ≤ 16777216)⟩, z⟩⟩
/-- all cells that a mode may have -/
theorem mode_cases {m : Str} {p : Prop} (h : m = "any" ∨ m = "odd") (h1 : m = "any" → p) (h2 : m = "odd" → p) : p := h.elim h1 h2
theorem any_ne_odd : ("any" : Str) ≠ "odd" := by decide
theorem beq_any : (("any" : Str) == "any") = true := by decide
theorem beq_odd : (("odd" : Str) == "odd") = true := by decide
theorem beq_any_odd : (("any" : Str) == "odd") = false := by decide
theorem beq_odd_any : (("odd" : Str) == "any") = false := by decide
end
end RP

namespace RP
open PySem PySem.Spec PyProof.Rows L2 RL

/-! ### lots: which places hold the same -/
section
variable {α β : Type} [DecidableEq α]
def idxF (x : α) : Nat → List α → List Int
  | _, [] => []
  | k, y :: ys => if y = x then (k : Int) :: idxF x (k + 1) ys else idxF x (k + 1) ys
theorem idxF_snoc (x y : α) : ∀ (k : Nat) (ys : List α), idxF x k (ys ++ [y]) = idxF x k ys ++ (if y = x then [((k + ys.length : Nat) : Int)] else [])
  | k, [] => by by_cases h : y = x <;> simp [idxF, h]
  | k, z :: ys => by
    have IH := idxF_snoc x y (k + 1) ys
    have e : k + 1 + ys.length = k + (ys.length + 1) := by omega
    rw [e] at IH
    simp only [List.cons_append, idxF, IH, List.length_cons]
    split <;> simp
def fstF (xs : List α) : List α := xs.foldl (fun acc x => if x ∈ acc then acc else acc ++ [x]) []
theorem fstF_snoc (xs : List α) (x : α) : fstF (xs ++ [x]) = if x ∈ fstF xs then fstF xs else fstF xs ++ [x] := by unfold fstF; rw [List.foldl_append]; rfl
theorem snoc_ind {P : List α → Prop} (h0 : P []) (hs : ∀ l a, P l → P (l ++ [a])) (l : List α) : P l := by
  have : ∀ l : List α, P l.reverse := fun l => by
    induction l with
    | nil => exact h0
    | cons a l ih => rw [List.reverse_cons]; exact hs _ _ ih
  have h := this l.reverse
  rwa [List.reverse_reverse] at h
theorem fstF_mem (xs : List α) : ∀ x, x ∈ fstF xs ↔ x ∈ xs := by
  refine snoc_ind (P := fun xs => ∀ x, x ∈ fstF xs ↔ x ∈ xs) (fun x => by unfold fstF; simp) (fun l a ih x => ?_) xs
  rw [fstF_snoc]
  by_cases h : a ∈ fstF l
  · rw [if_pos h, ih, List.mem_append]
    refine ⟨fun z => .inl z, fun z => z.elim id fun e => ?_⟩
    rw [List.mem_singleton.mp e]; exact (ih a).mp h
  · rw [if_neg h, List.mem_append, List.mem_append, ih]
theorem fstF_le (xs : List α) : (fstF xs).length ≤ xs.length := by
  refine snoc_ind (P := fun xs => (fstF xs).length ≤ xs.length) (Nat.le_refl _) (fun l a ih => ?_) xs
  rw [fstF_snoc, List.length_append]
  split
  · omega
  · rw [List.length_append]; simp; omega
theorem idxF_none {x : α} : ∀ {k : Nat} {xs : List α}, x ∉ xs → idxF x k xs = []
  | _, [], _ => rfl
  | k, y :: ys, h => by
    unfold idxF
    rw [if_neg fun z => h (by rw [z]; exact List.mem_cons_self), idxF_none fun z => h (List.mem_cons_of_mem _ z)]
theorem idxF_ne {x : α} : ∀ {k : Nat} {xs : List α}, x ∈ xs → idxF x k xs ≠ []
  | _, [], h => by cases h
  | k, y :: ys, h => by
    unfold idxF
    by_cases e : y = x
    · rw [if_pos e]; exact fun z => by cases z
    · rw [if_neg e]
      exact idxF_ne (List.mem_of_ne_of_mem (fun z => e z.symm) h)
theorem idxF_lt {x : α} : ∀ {k : Nat} {xs : List α} {i : Int}, i ∈ idxF x k xs → (k : Int) ≤ i ∧ i < (k + xs.length : Nat)
  | _, [], _, h => by cases h
  | k, y :: ys, i, h => by
    unfold idxF at h
    have IH : ∀ {i : Int}, i ∈ idxF x (k + 1) ys → (k : Int) ≤ i ∧ i < (k + (y :: ys).length : Nat) := fun h => by
      have := idxF_lt h
      rw [List.length_cons]
      constructor
      · omega
      · omega
    split at h
    · rcases List.mem_cons.mp h with rfl | h
      · rw [List.length_cons]; constructor <;> omega
      · exact IH h
    · exact IH h
theorem idxF_len {x : α} : ∀ {k : Nat} {xs : List α}, (idxF x k xs).length ≤ xs.length
  | _, [] => Nat.le_refl _
  | k, y :: ys => by
    unfold idxF
    have := idxF_len (x := x) (k := k + 1) (xs := ys)
    split
    · rw [List.length_cons, List.length_cons]; omega
    · rw [List.length_cons]; omega
def lotsI (xs : List α) : List (List Int) := (fstF xs).map fun x => idxF x 0 xs
def before (a b : List Int) : Prop := ∃ i a' j b', a = i :: a' ∧ b = j :: b' ∧ i < j
theorem lots_before (xs : List α) : (lotsI xs).Pairwise before := by
  refine snoc_ind (P := fun xs => (lotsI xs).Pairwise before) List.Pairwise.nil (fun l a ih => ?_) xs
  unfold lotsI at ih ⊢
  rw [List.pairwise_map] at ih ⊢
  have up : ∀ {x y : α}, before (idxF x 0 l) (idxF y 0 l) → before (idxF x 0 (l ++ [a])) (idxF y 0 (l ++ [a])) := by
    rintro x y ⟨i, a', j, b', e1, e2, h⟩
    rw [idxF_snoc, idxF_snoc, e1, e2]
    exact ⟨i, _, j, _, rfl, rfl, h⟩
  rw [fstF_snoc]
  by_cases h : a ∈ fstF l
  · rw [if_pos h]
    exact ih.imp up
  · rw [if_neg h]
    refine List.pairwise_append.mpr ⟨ih.imp up, List.pairwise_singleton _ _, fun x hx y hy => ?_⟩
    rw [List.mem_singleton.mp hy]
    have hx' := (fstF_mem l x).mp hx
    have ha : a ∉ l := fun z => h ((fstF_mem l a).mpr z)
    rw [idxF_snoc, idxF_snoc, idxF_none ha, if_pos rfl]
    obtain ⟨i, a', e⟩ := List.exists_cons_of_ne_nil (idxF_ne (k := 0) hx')
    have := (idxF_lt (x := x) (k := 0) (xs := l) (i := i) (by rw [e]; exact List.mem_cons_self)).2
    rw [e]
    exact ⟨i, _, _, [], rfl, rfl, by simpa using this⟩
theorem lots_sort (xs : List α) : sortI (lotsI xs) = lotsI xs := by
  refine sortI_self ((asc2_pair _).mpr ((lots_before xs).imp ?_))
  rintro a b ⟨i, a', j, b', rfl, rfl, h⟩
  rw [leI_eq]
  show (!HT.lexLt (j :: b') (i :: a')) = true
  rw [HT.lexLt_cons, if_neg (by omega)]
  simp; omega
def kvsOf (key : α → NestedKey) (xs : List α) : List (NestedKey × List PV) := (fstF xs).map fun x => (key x, (idxF x 0 xs).map PV.int)
theorem look_map {key : α → NestedKey} {f : α → β} {y : α} : ∀ {l : List α}, (∀ x ∈ l, key x = key y → x = y) → lookD (l.map fun x => (key x, f x)) (key y) = if y ∈ l then some (f y) else none
  | [], _ => rfl
  | x :: l, h => by
    rw [List.map_cons, lookD_cons]
    by_cases e : x = y
    · subst e
      rw [if_pos rfl, if_pos List.mem_cons_self]
    · rw [if_neg fun z => e (h x List.mem_cons_self z), look_map fun z hz => h z (List.mem_cons_of_mem _ hz)]
      by_cases hy : y ∈ l
      · rw [if_pos hy, if_pos (List.mem_cons_of_mem _ hy)]
      · rw [if_neg hy, if_neg fun z => hy (List.mem_of_ne_of_mem (fun q => e q.symm) z)]
theorem addD_kvs {key : α → NestedKey} {xs : List α} {y : α} (inj : ∀ x ∈ xs, key x = key y → x = y) : addD (kvsOf key xs) (key y) (.int xs.length) = kvsOf key (xs ++ [y]) := by
  have inj' : ∀ x ∈ fstF xs, key x = key y → x = y := fun x hx => inj x ((fstF_mem xs x).mp hx)
  have lk : lookD (kvsOf key xs) (key y) = if y ∈ fstF xs then some ((idxF y 0 xs).map PV.int) else none := look_map inj'
  unfold addD putD
  rw [lk]
  by_cases h : y ∈ fstF xs
  · rw [if_pos h]
    simp only [Option.isSome_some, if_true, Option.getD_some]
    unfold kvsOf
    rw [List.map_map, fstF_snoc, if_pos h]
    refine List.map_congr_left fun x hx => ?_
    show (if key x = key y then (key x, (idxF y 0 xs).map PV.int ++ [PV.int xs.length]) else (key x, (idxF x 0 xs).map PV.int)) = (key x, (idxF x 0 (xs ++ [y])).map PV.int)
    rw [idxF_snoc]
    by_cases e : x = y
    · subst e
      rw [if_pos rfl, if_pos rfl]
      simp
    · rw [if_neg fun z => e (inj' x hx z), if_neg fun z => e z.symm]
      simp
  · rw [if_neg h]
    simp only [Option.isSome_none, Bool.false_eq_true, if_false, Option.getD_none]
    unfold kvsOf
    rw [fstF_snoc, if_neg h, List.map_append, List.map_cons, List.map_nil, idxF_snoc, if_pos rfl, idxF_none fun z => h ((fstF_mem xs y).mpr z)]
    congr 1
    · refine List.map_congr_left fun x hx => ?_
      rw [idxF_snoc, if_neg fun z => h (by rw [z]; exact hx), List.append_nil]
    · simp
theorem kvs_len (key : α → NestedKey) (xs : List α) : (kvsOf key xs).length ≤ xs.length := by unfold kvsOf; rw [List.length_map]; exact fstF_le xs
theorem kvs_vals (key : α → NestedKey) (xs : List α) : (((kvsOf key xs).map fun kv => (kv.1, PV.lst kv.2)).map (·.2)) = (fstF xs).map fun x => PV.lst ((idxF x 0 xs).map PV.int) := by
  unfold kvsOf; rw [List.map_map, List.map_map]; rfl
theorem plain_ints : ∀ l : List Int, plainPs (l.map PV.int) = true
  | [] => rfl
  | _ :: l => by rw [List.map_cons]; unfold plainPs; rw [plain_ints l]; rfl
theorem plain_gs : ∀ L : List (List Int), plainPs (L.map gV) = true
  | [] => rfl
  | g :: L => by
    rw [List.map_cons]; unfold plainPs; rw [plain_gs L]
    unfold gV plainP; rw [plain_ints]; rfl
theorem plain_tV (L : List (List Int)) : plainP (tV L) = true := by unfold tV plainP; exact plain_gs L
/-- the same by looking at every place -/
theorem idx_filter (x : α) (xs : List α) : ((List.range xs.length).filter fun i => decide (xs[i]? = some x)).map (fun i : Nat => (i : Int)) = idxF x 0 xs := by
  refine snoc_ind (P := fun xs => ((List.range xs.length).filter fun i => decide (xs[i]? = some x)).map (fun i : Nat => (i : Int)) = idxF x 0 xs) rfl (fun l a ih => ?_) xs
  rw [idxF_snoc, List.length_append, List.length_singleton, List.range_succ, List.filter_append, List.map_append]
  have e : (List.range l.length).filter (fun i => decide ((l ++ [a])[i]? = some x)) = (List.range l.length).filter fun i => decide (l[i]? = some x) := by
    refine List.filter_congr fun i hi => ?_
    rw [List.getElem?_append_left (List.mem_range.mp hi)]
  rw [e, ih]
  congr 1
  by_cases h : a = x <;> simp [h]
theorem mem_lots {xs : List α} {l : List Int} (h : l ∈ lotsI xs) : l.length ≤ xs.length ∧ ∀ i ∈ l, 0 ≤ i ∧ i < xs.length := by
  unfold lotsI at h
  obtain ⟨x, _, rfl⟩ := List.mem_map.mp h
  exact ⟨idxF_len, fun i hi => by have := idxF_lt hi; simpa using this⟩
theorem idxF_at {x : α} {xs : List α} {i : Nat} : (i : Int) ∈ idxF x 0 xs ↔ xs[i]? = some x := by
  rw [← idx_filter, List.mem_map]
  constructor
  · rintro ⟨j, hj, e⟩
    have : j = i := by omega
    subst this
    simpa using (List.mem_filter.mp hj).2
  · intro h
    exact ⟨i, List.mem_filter.mpr ⟨List.mem_range.mpr (List.getElem?_eq_some_iff.mp h).1, by simpa using h⟩, rfl⟩
end
section
variable {t : Int} {P : PV → Int → Prop} {E : PX → Int → Prop} {α : Type}
/-- a comprehension whose parts are told one way only -/
theorem comp_le (enc : α → PV) (h : α → Bool) (f : α → PV) {i : Nat} {c : PT} {e : PE} {π : PEnv} {P : List PV → Int → Prop} : ∀ (xs : List α) (acc : List PV), acc.length + xs.length ≤ sizeLine →
    (∀ x ∈ xs, ∀ t (K : Bool → Int → Prop), K (h x) t → c (π.set i (.val (enc x))) t K noE) → (∀ x ∈ xs, h x = true → ∀ t (K : PV → Int → Prop), K (f x) t → e (π.set i (.val (enc x))) t K noE) → P (acc ++ (xs.filter h).map f) t →
    compW (pbNm i) c e π acc (xs.map enc) t P E
  | [], acc, _, _, _, hP => by
    rw [List.filter_nil, List.map_nil, List.append_nil] at hP
    exact hP
  | x :: xs, acc, hl, hc, he, hP => by
    rw [List.length_cons] at hl
    rw [List.map_cons]
    unfold compW
    have hc' := hc x List.mem_cons_self
    have IH := fun acc hl => comp_le (P := P) enc h f xs acc hl (fun y hy => hc y (List.mem_cons_of_mem _ hy)) fun y hy => he y (List.mem_cons_of_mem _ hy)
    simp only [pbNm, Option.some.injEq, exists_eq_left']
    refine hc' _ _ ?_
    by_cases hx : h x = true
    · simp only [hx, if_true]
      rw [List.filter_cons_of_pos hx, List.map_cons] at hP
      refine he x List.mem_cons_self hx _ _ ⟨by omega, IH _ (by simp; omega) ?_⟩
      rw [List.append_assoc]
      exact hP
    · simp only [hx, Bool.false_eq_true, if_false]
      rw [List.filter_cons_of_neg hx] at hP
      exact IH _ (by omega) hP
/-! ### tables compared -/
theorem eqv_tups : ∀ A B : LL, PyData.eqvAll (A.map fun l => .tuple (l.map PyData.int)) (B.map fun l => .tuple (l.map PyData.int)) = decide (A = B)
  | [], [] => rfl
  | [], _ :: _ => rfl
  | _ :: _, [] => rfl
  | a :: A, b :: B => by
    rw [List.map_cons, List.map_cons]
    unfold PyData.eqvAll
    rw [eqv_tups A B, eqv_tup]
    by_cases h : a = b <;> by_cases h2 : A = B <;> simp [h, h2]
abbrev tD (A : LL) : PyData := .tuple (A.map fun l => .tuple (l.map PyData.int))
theorem shaped_tT (L : LL) : SeqAt.shaped (tD L) = true := by
  have h := shaped_gs L
  unfold SeqAt.shaped PyData.canLay0 PyData.depth at h ⊢
  exact h
theorem sh_tV (j : Nat) (A : LL) : shO (j + 3) (tV A) = some (tD A) := by
  have e := sh_gVs j A
  show shO (j + 3) (.tup (A.map gV)) = _
  unfold shO
  rw [e]
  rfl
theorem sh_tVs (j : Nat) : ∀ Ls : LLL, mapO (shO (j + 3)) (Ls.map tV) = some (Ls.map tD)
  | [] => rfl
  | x :: l => by
    rw [List.map_cons]
    unfold mapO
    rw [sh_tVs j l, sh_tV]
    rfl
theorem shP_tV (A : LL) : shP (tV A) = some (tD A) := sh_tV 37 A
theorem eqv_tD (A B : LL) : PyData.eqv (tD A) (tD B) = decide (A = B) := by unfold tD PyData.eqv; exact eqv_tups A B
theorem w_eqTV {A B : LL} : pEq (tV A) (tV B) t P E = P (.bl (decide (A = B))) t := by
  have h1 := shP_tV A
  have h2 := shP_tV B
  have e : pEq (tV A) (tV B) t P E = ∃ d e, shP (tV A) = some d ∧ shP (tV B) = some e ∧ SeqAt.shaped d = true ∧ SeqAt.shaped e = true ∧ P (.bl (PyData.eqv d e)) t := by
    unfold tV; rfl
  rw [e, h1, h2]
  refine propext ⟨?_, fun z => ⟨_, _, rfl, rfl, shaped_tT A, shaped_tT B, by rw [eqv_tD]; exact z⟩⟩
  rintro ⟨d, e, z1, z2, _, _, z⟩
  cases z1; cases z2
  rw [eqv_tD] at z; exact z
theorem any_eqvT (g : LL) : ∀ L : LLL, ((L.map tD).any fun z => PyData.eqv z (tD g)) = decide (g ∈ L)
  | [] => rfl
  | l :: L => by
    rw [List.map_cons, List.any_cons, any_eqvT g L, eqv_tD]
    by_cases h : l = g
    · subst h; simp
    · have h' : ¬ g = l := fun z => h z.symm
      by_cases h2 : g ∈ L <;> simp [h, h', h2]
theorem shaped_tTs (L : LLL) : SeqAt.shaped (.list (L.map tD)) = true := by
  have one : ∀ A : LL, (tD A).canLay0 = true ∧ (tD A).depth ≤ 2 := fun A => by
    have h := shaped_tT A
    unfold SeqAt.shaped at h
    rw [Bool.and_eq_true] at h
    refine ⟨h.1, ?_⟩
    have : PyData.depthAll (A.map fun l => PyData.tuple (l.map PyData.int)) ≤ 1 := by
      clear h
      induction A with
      | nil => exact Nat.zero_le _
      | cons l A ih =>
        rw [List.map_cons]; unfold PyData.depthAll
        have : PyData.depth (.tuple (l.map PyData.int)) = 1 := by unfold PyData.depth; rw [depth_ints]
        omega
    unfold tD PyData.depth
    omega
  have h1 : PyData.canLayAll0 (L.map tD) = true := by
    induction L with
    | nil => rfl
    | cons l L ih => rw [List.map_cons]; unfold PyData.canLayAll0; rw [ih, (one l).1]; rfl
  have h2 : PyData.depthAll (L.map tD) ≤ 2 := by
    clear h1
    induction L with
    | nil => exact Nat.zero_le _
    | cons l L ih =>
      rw [List.map_cons]; unfold PyData.depthAll
      have := (one l).2
      omega
  unfold SeqAt.shaped PyData.canLay0 PyData.depth
  rw [h1]
  simp only [Bool.true_and, decide_eq_true_eq]
  omega
theorem in_coreT {g : LL} {L : LLL} {K : Bool → Prop} : inP (tV g) (.lst (L.map tV)) K = K (decide (g ∈ L)) := by
  have h1 := shP_tV g
  have h2 : shP (.lst (L.map tV)) = some (.list (L.map tD)) := by
    show shO (39 + 1) _ = _
    unfold shO
    rw [sh_tVs 36 L]; rfl
  unfold inP
  refine propext ⟨?_, fun z => ⟨_, rfl, .inr ⟨_, _, _, _, rfl, rfl, h1, h2, shaped_tT g, shaped_tTs L, by rw [any_eqvT]; exact z⟩⟩⟩
  rintro ⟨ys, e, ⟨z, _⟩ | ⟨us, zs, d, ds, e1, e2, s1, s2, _, _, z⟩⟩
  · cases z
  · cases e1; cases e2
    rw [h1] at s1; cases s1
    rw [h2] at s2; cases s2
    rw [any_eqvT] at z; exact z
theorem w_inTs {g : LL} {L : LLL} : pIn (tV g) (.lst (L.map tV)) t P E = P (.bl (decide (g ∈ L))) t := in_coreT
theorem w_notInTs {g : LL} {L : LLL} : pNotIn (tV g) (.lst (L.map tV)) t P E = P (.bl (!decide (g ∈ L))) t := in_coreT
end
end RP

namespace RP
open PySem PySem.Spec PyProof.Rows L2 RL

/-! ### values of all kinds that can be shown -/
def Shw (k w : Nat) (v : PV) : Prop := ∃ p, (∀ j, k < j → shO j v = some p) ∧ p.showable = true ∧ p.leavesShort 80 = true ∧ p.depth ≤ k ∧ p.weight ≤ w
def ShwL (k w : Nat) (vs : List PV) : Prop := ∃ ps, (∀ j, k < j → mapO (shO j) vs = some ps) ∧ PyData.showableAll ps = true ∧ PyData.leavesShortAll 80 ps = true ∧ PyData.depthAll ps ≤ k ∧ PyData.weightAll ps ≤ w
theorem Shw.weak {k w k' w' : Nat} {v : PV} (h : Shw k w v) (h1 : k ≤ k') (h2 : w ≤ w') : Shw k' w' v := by
  obtain ⟨p, a, b, c, d, e⟩ := h
  exact ⟨p, fun j hj => a j (by omega), b, c, by omega, by omega⟩
theorem ShwL.weak {k w w' : Nat} {v : List PV} (h : ShwL k w v) (h2 : w ≤ w') : ShwL k w' v := by
  obtain ⟨p, a, b, c, d, e⟩ := h
  exact ⟨p, a, b, c, d, by omega⟩
mutual
theorem leaves_up (d : PyData) : d.leavesShort 8 = true → d.leavesShort 80 = true := by
  cases d with
  | none => exact id
  | bool b => exact id
  | int i =>
    unfold PyData.leavesShort
    simp only [decide_eq_true_eq]
    omega
  | str x => exact id
  | list xs => unfold PyData.leavesShort; exact leavesAll_up xs
  | tuple xs => unfold PyData.leavesShort; exact leavesAll_up xs
  | dict kvs => unfold PyData.leavesShort; exact leavesKv_up kvs
theorem leavesAll_up (ds : List PyData) : PyData.leavesShortAll 8 ds = true → PyData.leavesShortAll 80 ds = true := by
  cases ds with
  | nil => exact id
  | cons d ds =>
    unfold PyData.leavesShortAll
    simp only [Bool.and_eq_true]
    exact fun h => ⟨leaves_up d h.1, leavesAll_up ds h.2⟩
theorem leavesKv_up (ds : List (PyData × PyData)) : PyData.leavesShortKv 8 ds = true → PyData.leavesShortKv 80 ds = true := by
  cases ds with
  | nil => exact id
  | cons d ds =>
    obtain ⟨a, b⟩ := d
    unfold PyData.leavesShortKv
    simp only [Bool.and_eq_true]
    exact fun h => ⟨⟨leaves_up a h.1.1, leaves_up b h.1.2⟩, leavesKv_up ds h.2⟩
end
theorem Nice.shw {k w : Nat} {v : PV} (h : Nice k w v) : Shw k w v := by
  obtain ⟨p, a, b, c, d, e, f⟩ := h
  exact ⟨p, a, b, leaves_up p c, d, e⟩
theorem NiceL.shw {k w : Nat} {v : List PV} (h : NiceL k w v) : ShwL k w v := by
  obtain ⟨p, a, b, c, d, e, f⟩ := h
  exact ⟨p, a, b, leavesAll_up p c, d, e⟩
theorem shwL_nil {k : Nat} : ShwL k 0 [] := ⟨[], fun _ _ => rfl, rfl, rfl, Nat.zero_le _, Nat.zero_le _⟩
theorem shwL_cons {k w w' : Nat} {v : PV} {vs : List PV} (h : Shw k w v) (h' : ShwL k w' vs) : ShwL k (w + 1 + w') (v :: vs) := by
  obtain ⟨p, a, b, c, d, e⟩ := h
  obtain ⟨ps, a', b', c', d', e'⟩ := h'
  refine ⟨p :: ps, fun j hj => ?_, ?_, ?_, ?_, ?_⟩
  · unfold mapO; rw [a j hj, a' j hj]
  · unfold PyData.showableAll; rw [b, b']; rfl
  · unfold PyData.leavesShortAll; rw [c, c']; rfl
  · unfold PyData.depthAll; omega
  · unfold PyData.weightAll; omega
theorem shwL_all {k w : Nat} : ∀ {vs : List PV}, (∀ v ∈ vs, Shw k w v) → ShwL k ((w + 1) * vs.length) vs
  | [], _ => shwL_nil
  | v :: vs, h => by
    have := shwL_cons (h v List.mem_cons_self) (shwL_all fun u hu => h u (List.mem_cons_of_mem _ hu))
    refine this.weak ?_
    rw [List.length_cons, Nat.mul_succ]; omega
theorem shw_tupL {k w : Nat} {vs : List PV} (h : ShwL k w vs) : Shw (k + 1) w (.tup vs) := by
  obtain ⟨ps, a, b, c, d, e⟩ := h
  refine ⟨.tuple ps, fun j hj => ?_, ?_, ?_, ?_, ?_⟩
  · cases j with
    | zero => omega
    | succ j => unfold shO; rw [a j (by omega)]; rfl
  · unfold PyData.showable; exact b
  · unfold PyData.leavesShort; exact c
  · unfold PyData.depth; omega
  · unfold PyData.weight; exact e
theorem shw_lstL {k w : Nat} {vs : List PV} (h : ShwL k w vs) : Shw (k + 1) w (.lst vs) := by
  obtain ⟨ps, a, b, c, d, e⟩ := h
  refine ⟨.list ps, fun j hj => ?_, ?_, ?_, ?_, ?_⟩
  · cases j with
    | zero => omega
    | succ j => unfold shO; rw [a j (by omega)]; rfl
  · unfold PyData.showable; exact b
  · unfold PyData.leavesShort; exact c
  · unfold PyData.depth; omega
  · unfold PyData.weight; exact e
theorem shw_tup {k w n : Nat} {vs : List PV} (h : ∀ v ∈ vs, Shw k w v) (hn : vs.length ≤ n) : Shw (k + 1) ((w + 1) * n) (.tup vs) := shw_tupL ((shwL_all h).weak (Nat.mul_le_mul_left _ hn))
theorem shw_lst {k w n : Nat} {vs : List PV} (h : ∀ v ∈ vs, Shw k w v) (hn : vs.length ≤ n) : Shw (k + 1) ((w + 1) * n) (.lst vs) := shw_lstL ((shwL_all h).weak (Nat.mul_le_mul_left _ hn))
section
variable {t : Int} {P : PV → Int → Prop} {E : PX → Int → Prop} {α β : Type}
theorem w_reprS {k w : Nat} {v : PV} (h : Shw k w v) (hk : k ≤ 12) (hw : w ≤ 200000) : pRepr [v] t P E = P (.str (shw v)) t := by
  obtain ⟨p, a, b, c, d, e⟩ := h
  have h1 := a deepLine (by unfold deepLine; omega)
  have hl : p.shown.length ≤ sizeLine := by
    have z := PyData.shown_le 80 (by decide) p c
    have : (80 + 2) * p.weight ≤ 82 * 200000 := Nat.mul_le_mul (by omega) (by omega)
    rw [sl_eq]; omega
  unfold pRepr shw
  simp only [h1, Option.getD_some]
  refine propext ⟨?_, fun z => ⟨p, rfl, ⟨b, hl, by omega⟩, z⟩⟩
  rintro ⟨q, e, _, z⟩
  cases e
  exact z
/-- kinds -/
def isK (T : String) : PV → Bool
  | .non => isiB "NoneType" T
  | .bl _ => isiB "bool" T
  | .int _ => isiB "int" T
  | .str _ => isiB "str" T
  | .tup _ => isiB "tuple" T
  | .lst _ => isiB "list" T
  | .dct _ => isiB "dict" T
  | _ => false
def isNum : PV → Bool
  | .int _ => true
  | _ => false
def Dat (v : PV) : Prop := ∃ j p, shO j v = some p
theorem Shw.dat {k w : Nat} {v : PV} (h : Shw k w v) : Dat v := by
  obtain ⟨p, a, _⟩ := h
  exact ⟨k + 1, p, a (k + 1) (by omega)⟩
theorem Nice.dat {k w : Nat} {v : PV} (h : Nice k w v) : Dat v := h.shw.dat
theorem Dat.kind {v : PV} (h : Dat v) : ∃ k, kindP v = some k ∧ ∀ T, isiB k T = isK T v := by
  obtain ⟨j, p, e⟩ := h
  cases v with
  | non => exact ⟨_, rfl, fun _ => rfl⟩
  | bl => exact ⟨_, rfl, fun _ => rfl⟩
  | int => exact ⟨_, rfl, fun _ => rfl⟩
  | str => exact ⟨_, rfl, fun _ => rfl⟩
  | tup => exact ⟨_, rfl, fun _ => rfl⟩
  | lst => exact ⟨_, rfl, fun _ => rfl⟩
  | dct => exact ⟨_, rfl, fun _ => rfl⟩
  | dcx => cases j with | zero => unfold shO at e; cases e | succ j => unfold shO at e; cases e
  | deck => cases j with | zero => unfold shO at e; cases e | succ j => unfold shO at e; cases e
theorem mapO_dat {j : Nat} : ∀ {vs : List PV} {ps : List PyData}, mapO (shO j) vs = some ps → ∀ v ∈ vs, Dat v
  | [], _, _, v, hv => by cases hv
  | u :: vs, ps, e, v, hv => by
    obtain ⟨y, ys, e1, e2, rfl⟩ := mapO_cons e
    rcases List.mem_cons.mp hv with rfl | hv
    · exact ⟨j, y, e1⟩
    · exact mapO_dat e2 v hv
theorem Dat.tup {vs : List PV} (h : Dat (.tup vs)) : ∀ v ∈ vs, Dat v := by
  obtain ⟨j, p, e⟩ := h
  cases j with
  | zero => unfold shO at e; cases e
  | succ j =>
    unfold shO at e
    obtain ⟨ps, e1, _⟩ := Option.map_eq_some_iff.mp e
    exact mapO_dat e1
theorem Dat.lst {vs : List PV} (h : Dat (.lst vs)) : ∀ v ∈ vs, Dat v := by
  obtain ⟨j, p, e⟩ := h
  cases j with
  | zero => unfold shO at e; cases e
  | succ j =>
    unfold shO at e
    obtain ⟨ps, e1, _⟩ := Option.map_eq_some_iff.mp e
    exact mapO_dat e1
theorem dat_int {i : Int} : Dat (.int i) := ⟨1, _, rfl⟩
theorem dat_str {i : Str} : Dat (.str i) := ⟨1, _, rfl⟩
theorem u_isiD {T : String} {e : PE} {π : PEnv} {v : PV} (h : Dat v) : (∃ k, kindP v = some k ∧ P (.bl (isiB k T)) t) = P (.bl (isK T v)) t := by
  obtain ⟨k, e1, e2⟩ := h.kind
  rw [e1]
  simp only [Option.some.injEq, exists_eq_left', e2]
theorem u_isiK {T : String} {e : PE} {π : PEnv} {v : PV} (h : Dat v) (he : ∀ K : PV → Int → Prop, e π t K E = K v t) : pIsi T e π t P E = P (.bl (isK T v)) t := by
  rw [u_isi, he]
  exact u_isiD (e := e) (π := π) h
theorem u_isi0 {T : String} {r : PEnv} {v : PV} (h : Dat v) : pIsi T (pVar 0) (.val v :: r) t P E = P (.bl (isK T v)) t := u_isiK h fun _ => rfl
theorem u_isi1 {T : String} {r : PEnv} {s0 : PSlot} {v : PV} (h : Dat v) : pIsi T (pVar 1) (s0 :: .val v :: r) t P E = P (.bl (isK T v)) t := u_isiK h fun _ => rfl
theorem u_isi2 {T : String} {r : PEnv} {s0 s1 : PSlot} {v : PV} (h : Dat v) : pIsi T (pVar 2) (s0 :: s1 :: .val v :: r) t P E = P (.bl (isK T v)) t := u_isiK h fun _ => rfl
theorem u_isi3 {T : String} {r : PEnv} {s0 s1 s2 : PSlot} {v : PV} (h : Dat v) : pIsi T (pVar 3) (s0 :: s1 :: s2 :: .val v :: r) t P E = P (.bl (isK T v)) t := u_isiK h fun _ => rfl
theorem isK_tt {vs : List PV} : isK "tuple" (.tup vs) = true := by show isiB "tuple" "tuple" = true; decide
theorem isK_ii {i : Int} : isK "int" (.int i) = true := by show isiB "int" "int" = true; decide
theorem isK_ib {i : Int} : isK "bool" (.int i) = false := by show isiB "int" "bool" = false; decide
theorem isK_bi {i : Bool} : isK "int" (.bl i) = true := by show isiB "bool" "int" = true; decide
theorem isK_bb {i : Bool} : isK "bool" (.bl i) = true := by show isiB "bool" "bool" = true; decide
theorem isK_ss {i : Str} : isK "str" (.str i) = true := by show isiB "str" "str" = true; decide
theorem isK_tup {v : PV} (h : isK "tuple" v = true) : ∃ vs, v = .tup vs := by
  cases v with
  | tup vs => exact ⟨vs, rfl⟩
  | dcx _ => cases h
  | deck => cases h
  | _ => exact absurd h (by show ¬ (isiB _ "tuple" = true); decide)
theorem isK_str {v : PV} (h : isK "str" v = true) : ∃ s, v = .str s := by
  cases v with
  | str s => exact ⟨s, rfl⟩
  | dcx _ => cases h
  | deck => cases h
  | _ => exact absurd h (by show ¬ (isiB _ "str" = true); decide)
theorem isK_num {v : PV} : (isK "int" v && !isK "bool" v) = isNum v := by
  cases v <;> first | rfl | (show (isiB _ "int" && !isiB _ "bool") = _; decide) | skip
/-- whole numbers from a to b -/
def isI (a b : Int) : PV → Bool
  | .int x => decide (a ≤ x) && decide (x ≤ b)
  | _ => false
theorem isI_num {a b : Int} {v : PV} (h : isI a b v = true) : ∃ x, v = .int x ∧ a ≤ x ∧ x ≤ b := by
  cases v <;> try (cases h; done)
  rename_i x
  unfold isI at h
  simp only [Bool.and_eq_true, decide_eq_true_eq] at h
  exact ⟨x, rfl, h⟩
/-- ascending whole numbers from lo to hi -/
def grpL (hi : Int) : Int → List PV → Bool
  | _, [] => true
  | lo, v :: vs => isI lo hi v && grpL hi (match v with | .int x => x + 1 | _ => lo) vs
def isG (h : Int) : PV → Bool
  | .tup vs => grpL (h - 1) 0 vs
  | _ => false
theorem grpL_iff {hi : Int} : ∀ {vs : List PV} {lo : Int}, grpL hi lo vs = true ↔ ∃ l : List Int, vs = l.map PV.int ∧ l.Pairwise (· < ·) ∧ ∀ x ∈ l, lo ≤ x ∧ x ≤ hi
  | [], lo => ⟨fun _ => ⟨[], rfl, List.Pairwise.nil, fun _ h => by cases h⟩, fun _ => rfl⟩
  | v :: vs, lo => by
    unfold grpL
    rw [Bool.and_eq_true]
    constructor
    · rintro ⟨h1, h2⟩
      obtain ⟨x, rfl, h3, h4⟩ := isI_num h1
      obtain ⟨l, rfl, p, q⟩ := grpL_iff.mp h2
      refine ⟨x :: l, rfl, List.pairwise_cons.mpr ⟨fun y hy => by have := q y hy; dsimp only at this; omega, p⟩, fun y hy => ?_⟩
      rcases List.mem_cons.mp hy with rfl | hy
      · exact ⟨h3, h4⟩
      · have := q y hy; dsimp only at this; omega
    · rintro ⟨l, e, p, q⟩
      cases l with
      | nil => cases e
      | cons x l =>
        rw [List.map_cons] at e
        obtain ⟨rfl, rfl⟩ := List.cons.inj e
        obtain ⟨p1, p2⟩ := List.pairwise_cons.mp p
        have h1 := q x List.mem_cons_self
        refine ⟨by unfold isI; simp only [Bool.and_eq_true, decide_eq_true_eq]; exact h1, grpL_iff.mpr ⟨l, rfl, p2, fun y hy => ?_⟩⟩
        have := p1 y hy
        have := q y (List.mem_cons_of_mem _ hy)
        dsimp only
        omega
theorem isG_iff {h : Int} {v : PV} : isG h v = true ↔ ∃ l : List Int, v = gV l ∧ l.Pairwise (· < ·) ∧ ∀ x ∈ l, 0 ≤ x ∧ x ≤ h - 1 := by
  constructor
  · intro hv
    cases v <;> try (cases hv; done)
    rename_i vs
    obtain ⟨l, rfl, p, q⟩ := grpL_iff.mp hv
    exact ⟨l, rfl, p, q⟩
  · rintro ⟨l, rfl, p, q⟩
    exact grpL_iff.mpr ⟨l, rfl, p, q⟩
theorem isG_grp {h : Nat} {v : PV} : isG h v = true ↔ ∃ l : List Int, v = gV l ∧ GrpI h l := isG_iff
theorem gV_inj : ∀ {a b : List Int}, PV.tup (b.map PV.int) = PV.tup (a.map PV.int) → a = b := by
  intro a b e
  injection e with e
  have inj : ∀ a b : List Int, a.map PV.int = b.map PV.int → a = b := fun a => by
    induction a with
    | nil => intro b e; cases b with | nil => rfl | cons => cases e
    | cons x a ih =>
      intro b e
      cases b with
      | nil => cases e
      | cons y b =>
        rw [List.map_cons, List.map_cons] at e
        obtain ⟨e1, e2⟩ := List.cons.inj e
        cases e1
        rw [ih b e2]
  exact (inj _ _ e).symm
theorem isG_gV {h : Nat} {l : List Int} : isG h (gV l) = true ↔ GrpI h l := by
  rw [isG_grp]
  refine ⟨fun ⟨l', e, g⟩ => ?_, fun g => ⟨l, rfl, g⟩⟩
  unfold gV at e
  have e2 : l.map PV.int = l'.map PV.int := by injection e
  have inj : ∀ a b : List Int, a.map PV.int = b.map PV.int → a = b := fun a => by
    induction a with
    | nil => intro b e; cases b with | nil => rfl | cons => cases e
    | cons x a ih =>
      intro b e
      cases b with
      | nil => cases e
      | cons y b =>
        rw [List.map_cons, List.map_cons] at e
        obtain ⟨e1, e2⟩ := List.cons.inj e
        cases e1
        rw [ih b e2]
  rw [inj _ _ e2]; exact g
/-- the same as neighbours tell it -/
def downs (l : List Int) : List Nat := (List.range (l.length - 1)).filter fun i => decide (l.getD i 0 ≥ l.getD (i + 1) 0)
theorem range_shift (n : Nat) : List.range (n + 1) = 0 :: (List.range n).map (· + 1) := List.range_succ_eq_map
theorem downs_emp : ∀ l : List Int, (downs l).isEmpty = true ↔ l.Pairwise (· < ·)
  | [] => by unfold downs; simp
  | [x] => by unfold downs; simp
  | x :: y :: l => by
    have IH := downs_emp (y :: l)
    unfold downs at IH ⊢
    have e : (x :: y :: l).length - 1 = ((y :: l).length - 1) + 1 := by simp
    rw [e, range_shift, List.filter_cons, List.filter_map]
    have e2 : (fun i : Nat => decide ((x :: y :: l).getD i 0 ≥ (x :: y :: l).getD (i + 1) 0)) ∘ (· + 1) = fun i => decide ((y :: l).getD i 0 ≥ (y :: l).getD (i + 1) 0) := by
      funext i; rfl
    rw [e2]
    have e3 : ((x :: y :: l).getD 0 0 ≥ (x :: y :: l).getD (0 + 1) 0) = (x ≥ y) := rfl
    simp only [e3]
    by_cases h : x ≥ y
    · rw [if_pos (by simpa using h)]
      constructor
      · intro z; cases z
      · intro z
        have := (List.pairwise_cons.mp z).1 y List.mem_cons_self
        omega
    · rw [if_neg (by simpa using h), List.isEmpty_map, IH]
      constructor
      · intro z
        refine List.pairwise_cons.mpr ⟨fun w hw => ?_, z⟩
        rcases List.mem_cons.mp hw with rfl | hw
        · omega
        · have := (List.pairwise_cons.mp z).1 w hw; omega
      · intro z; exact (List.pairwise_cons.mp z).2
theorem weight_len : ∀ {ps : List PyData}, ps.length ≤ PyData.weightAll ps
  | [] => Nat.zero_le _
  | p :: ps => by
    unfold PyData.weightAll
    have := weight_len (ps := ps)
    rw [List.length_cons]; omega
theorem mapO_len {f : PV → Option PyData} : ∀ {vs : List PV} {ps : List PyData}, mapO f vs = some ps → ps.length = vs.length
  | [], _, e => by unfold mapO at e; cases e; rfl
  | v :: vs, ps, e => by
    obtain ⟨y, ys, e1, e2, rfl⟩ := mapO_cons e
    rw [List.length_cons, List.length_cons, mapO_len e2]
theorem Shw.len {k w : Nat} {v : PV} (h : Shw k w v) : ∀ vs, v = .tup vs → vs.length ≤ w := by
  rintro vs rfl
  obtain ⟨p, a, _, _, _, e⟩ := h
  have h1 := a (k + 1) (by omega)
  unfold shO at h1
  obtain ⟨ps, e1, rfl⟩ := Option.map_eq_some_iff.mp h1
  have h2 := mapO_len e1
  unfold PyData.weight at e
  have := weight_len (ps := ps)
  omega
theorem shw_c {k w : Nat} {v : PV} (p : PyData) (h : ∀ i, shO (i + (k + 1)) v = some p) (h2 : (p.showable && p.leavesShort 80 && decide (p.depth ≤ k) && decide (p.weight ≤ w)) = true) : Shw k w v := by
  simp only [Bool.and_eq_true, decide_eq_true_eq] at h2
  obtain ⟨⟨⟨a, b⟩, c⟩, d⟩ := h2
  refine ⟨p, fun j hj => ?_, a, b, c, d⟩
  obtain ⟨i, rfl⟩ : ∃ i, j = i + (k + 1) := ⟨j - (k + 1), by omega⟩
  exact h i
theorem u_neg {e : PE} {π : PEnv} : pNeg e π t P E = e π t (fun v t1 => match v with
  | .int i => P (.int (-i)) t1
  | _ => False) E := propext Iff.rfl
theorem u_powI {i j : Int} : pPow (.int i) (.int j) t P E = ((0 ≤ j ∧ j ≤ 1000000 ∧ i.natAbs < 2 ^ 64) ∧ P (.int (i ^ j.toNat)) t) := propext Iff.rfl
theorem u_revT {e : PE} {π : PEnv} : pRev e π t P E = e π t (fun x t1 => match x with
  | .tup xs => P (.tup xs.reverse) t1
  | .lst xs => P (.lst xs.reverse) t1
  | _ => False) E := propext Iff.rfl
theorem u_isiDct {k : L2.Key} {v : PV} : kindP (.dct [(k, v)]) = some "dict" := rfl
/-- the odd values of the laws -/
def oddVals : List PV := [.non, .bl true, .bl false, .int 0, .int 1, .int (-1), .int 2, .int (10 ^ 59), .str "", .str "any", .str "odd", .str "0", .str "tone", .tup [], .tup [.int 0], .tup [.int 0, .int 1], .tup [.int 1, .int 0], .tup [.int 0, .int 0], .lst [.int 0], .lst [], .dct [],
  .tup [.tup []], .tup [.tup [.int 0]], .tup [.non], .tup [.bl true], .tup [.str "0"], .dct [(.inr "0", .int 1)], .tup [.tup [.int 0, .int 1], .tup [.int 1, .int 2]], .tup [.int 1, .str "any", .tup []], .tup [.int 2, .tup [], .tup []]]
def pOf (v : PV) : PyData := (shO 4 v).getD .none
theorem shw_d {v : PV} (h : ∀ i, shO (i + (3 + 1)) v = some (pOf v)) (h2 : ((pOf v).showable && (pOf v).leavesShort 80 && decide ((pOf v).depth ≤ 3) && decide ((pOf v).weight ≤ 300)) = true) : Shw 3 300 v := shw_c (pOf v) h h2
theorem odd_shw : ∀ v ∈ oddVals, Shw 3 300 v := by
  intro v hv
  simp only [oddVals, List.mem_cons, List.not_mem_nil, or_false] at hv
  rcases hv with rfl | rfl | rfl | rfl | rfl | rfl | rfl | rfl | rfl | rfl | rfl | rfl | rfl | rfl | rfl | rfl | rfl | rfl | rfl | rfl | rfl | rfl | rfl | rfl | rfl | rfl | rfl | rfl | rfl | rfl
  all_goals exact shw_d (fun i => rfl) (by decide +kernel)
end
end RP

namespace K01
open PySem PySem.Spec PyProof.Rows L2 RL RP

def topS (i : Nat) : Stmt := PySem.Challenge.pw_clearsheets_k01_groups_and_parts.main.body.getD i (.Pass ⟨0, 0, 0, 0⟩)
abbrev s_is_number : Stmt := topS 1
abbrev s_is_whole : Stmt := topS 2
abbrev s_is_group : Stmt := topS 4
abbrev s_parts : Stmt := topS 6
abbrev s_groups : Stmt := topS 5
abbrev s__law_deck : Stmt := topS 8
abbrev s__law_take : Stmt := topS 9
abbrev s__law_pick : Stmt := topS 10
abbrev s__law_odd : Stmt := topS 11
abbrev s__law_parts : Stmt := topS 12
abbrev s__law_groups : Stmt := topS 13
abbrev s__law_group : Stmt := topS 14
abbrev s__law_is_whole : Stmt := topS 15
abbrev s__law_is_group : Stmt := topS 16
abbrev s__law_bent_group : Stmt := topS 17
abbrev s_law : Stmt := topS 18

abbrev n_is_number : List Str := ["value"]
abbrev p_is_number : List Str := ["value"]
theorem c_is_number : FnScope n_is_number p_is_number (defScope s_is_number) := ⟨rfl, rfl, rfl, by decide +kernel, rfl, by decide +kernel, by decide +kernel⟩
noncomputable def b_is_number : MS :=
  (sSeq (sRet (eAndV (eIsi "int" (eVar 0)) (eNotV (eIsi "bool" (eVar 0)))))
  sPass)
noncomputable def f_is_number : Fn := mBody 1 b_is_number
theorem g_is_number {P : Program} {w : World} {K : PySem.W.Frag} {mg : Str → Option Value} {base : Heap} (m_isinstance : mg "isinstance" = none) (m_int : mg "int" = none) (m_bool : mg "bool" = none) {f : Addr} {fd : FuncData} (Fu : Fun K "is_number" "is_number" s_is_number f fd) : FnG P w K mg base 1 f fd p_is_number f_is_number :=
  fn_sound Fu c_is_number fun cdv A outer s H E c => (sss_cons (ss_ret (se_and (se_isi (T := "int") m_isinstance (by decide) m_int PyProof.Rows.boot_int (se_var 0)) (se_one (se_not (se_isi (T := "bool") m_isinstance (by decide) m_bool PyProof.Rows.boot_bool (se_var 0))))))
  sss_nil)

abbrev n_is_whole : List Str := ["value", "low", "high"]
abbrev p_is_whole : List Str := ["value", "low", "high"]
theorem c_is_whole : FnScope n_is_whole p_is_whole (defScope s_is_whole) := ⟨rfl, rfl, rfl, by decide +kernel, rfl, by decide +kernel, by decide +kernel⟩
noncomputable def b_is_whole : MS :=
  (sSeq (sRet (eAndV (eFn1 1 f_is_number (aCons (eVar 0) aNil)) (eChain oLe2 oLe2 (eVar 1) (eVar 0) (eVar 2))))
  sPass)
noncomputable def f_is_whole : Fn := mBody 3 b_is_whole
theorem g_is_whole {P : Program} {w : World} {K : PySem.W.Frag} {mg : Str → Option Value} {base : Heap} (d_is_number : Known P w K mg base 1 "is_number" s_is_number p_is_number f_is_number) {f : Addr} {fd : FuncData} (Fu : Fun K "is_whole" "is_whole" s_is_whole f fd) : FnG P w K mg base 2 f fd p_is_whole f_is_whole :=
  fn_sound Fu c_is_whole fun cdv A outer s H E c => (sss_cons (ss_ret (se_and (se_callD c d_is_number (by decide) 1 rfl (sa_cons (se_var 0) sa_nil)) (se_one (se_chain (op_le2 c.hr.units) od_le2 (op_le2 c.hr.units) od_le2 (se_var 1) (se_var 0) (se_var 2)))))
  sss_nil)

abbrev n_is_group : List Str := ["holders", "value", "least", "item"]
abbrev p_is_group : List Str := ["holders", "value"]
theorem c_is_group : FnScope n_is_group p_is_group (defScope s_is_group) := ⟨rfl, rfl, rfl, by decide +kernel, rfl, by decide +kernel, by decide +kernel⟩
noncomputable def b_is_group : MS :=
  (sSeq (sIf (tNotM (tOf (eIsi "tuple" (eVar 1))))
  (sSeq (sRet (eC (.bl false)))
  sPass)
  sPass)
  (sSeq (sSet 2 (eC (.int 0)))
  (sSeq (sFor (iAnyM (eVar 1)) (gNm 3)
  (sSeq (sIf (tNotM (tOf (eFn1 3 f_is_whole (aCons (eVar 3) (aCons (eVar 2) (aCons (eBin oSub (eVar 0) (eC (.int 1))) aNil))))))
  (sSeq (sRet (eC (.bl false)))
  sPass)
  sPass)
  (sSeq (sSet 2 (eBin oAdd (eVar 3) (eC (.int 1))))
  sPass)))
  (sSeq (sRet (eC (.bl true)))
  sPass))))
noncomputable def f_is_group : Fn := mBody 4 b_is_group
theorem g_is_group {P : Program} {w : World} {K : PySem.W.Frag} {mg : Str → Option Value} {base : Heap} (m_isinstance : mg "isinstance" = none) (m_tuple : mg "tuple" = none) (d_is_whole : Known P w K mg base 2 "is_whole" s_is_whole p_is_whole f_is_whole) {f : Addr} {fd : FuncData} (Fu : Fun K "is_group" "is_group" s_is_group f fd) : FnG P w K mg base 3 f fd p_is_group f_is_group :=
  fn_sound Fu c_is_group fun cdv A outer s H E c => (sss_cons (RL.ss_if (st_not (st_val (se_isi (T := "tuple") m_isinstance (by decide) m_tuple PyProof.Rows.boot_tuple (se_var 1))))
  (sss_cons (ss_ret se_bl)
  sss_nil)
  sss_nil)
  (sss_cons (RL.ss_set 2 c.nd se_int)
  (sss_cons (RL.ss_for c (si_any (se_var 1)) (sg_name 3 c.nd)
  (sss_cons (RL.ss_if (st_not (st_val (se_callD c d_is_whole (by decide) 3 rfl (sa_cons (se_var 3) (sa_cons (se_var 2) (sa_cons (se_sub (se_var 0) se_int) sa_nil))))))
  (sss_cons (ss_ret se_bl)
  sss_nil)
  sss_nil)
  (sss_cons (RL.ss_set 2 c.nd (se_add (se_var 3) se_int))
  sss_nil)))
  (sss_cons (ss_ret se_bl)
  sss_nil))))

abbrev n_parts : List Str := ["group", "found", "holder", "part"]
abbrev p_parts : List Str := ["group"]
theorem c_parts : FnScope n_parts p_parts (defScope s_parts) := ⟨rfl, rfl, rfl, by decide +kernel, rfl, by decide +kernel, by decide +kernel⟩
noncomputable def b_parts : MS :=
  (sSeq (sSet 1 (eLst (aCons (eTup aNil) aNil)))
  (sSeq (sFor (iAnyM (eVar 0)) (gNm 2)
  (sSeq (sSet 1 (eBin oAdd (eVar 1) (eComp (iAnyM (eVar 1)) (bNm 3) [3] tYesM (eBin oAdd (eVar 3) (eTup (aCons (eVar 2) aNil))))))
  sPass))
  (sSeq (sRet (eCall fTuple (aCons (eCall fSorted (aCons (eVar 1) aNil)) aNil)))
  sPass)))
noncomputable def f_parts : Fn := mBody 4 b_parts
theorem g_parts {P : Program} {w : World} {K : PySem.W.Frag} {mg : Str → Option Value} {base : Heap} (m_tuple : mg "tuple" = none) (m_sorted : mg "sorted" = none) {f : Addr} {fd : FuncData} (Fu : Fun K "parts" "parts" s_parts f fd) : FnG P w K mg base 1 f fd p_parts f_parts :=
  fn_sound Fu c_parts fun cdv A outer s H E c => (sss_cons (RL.ss_set 1 c.nd (se_lst (sa_cons (se_tup sa_nil) sa_nil)))
  (sss_cons (RL.ss_for c (si_any (se_var 0)) (sg_name 2 c.nd)
  (sss_cons (RL.ss_set 1 c.nd (se_add (se_var 1) (se_comp c (si_any (se_var 1)) (blkOk_by (N := n_parts) (sc := defScope s_parts) (own := [("part", 3)]) (by decide +kernel)) (fun _ _ _ _ _ => pg_name (i := 3) c.nd rfl (by first | exact Or.inl rfl | exact Or.inr rfl)) (fun _ _ _ _ _ => pts_nilM) (fun s1 H1 C1 cl1 fp1 => (se_add (se_var 3) (se_tup (sa_cons (se_var 2) sa_nil)))))))
  sss_nil))
  (sss_cons (ss_ret (se_callTy call_tuple_of cd_tuple m_tuple PyProof.Rows.boot_tuple (sa_cons (se_callB (call_sorted c) cd_sorted m_sorted boot_sorted (sa_cons (se_var 1) sa_nil)) sa_nil)))
  sss_nil)))

abbrev n_groups : List Str := ["holders"]
abbrev p_groups : List Str := ["holders"]
theorem c_groups : FnScope n_groups p_groups (defScope s_groups) := ⟨rfl, rfl, rfl, by decide +kernel, rfl, by decide +kernel, by decide +kernel⟩
noncomputable def b_groups : MS :=
  (sSeq (sRet (eFn1 1 f_parts (aCons (eRg1 fTupRg (eVar 0)) aNil)))
  sPass)
noncomputable def f_groups : Fn := mBody 1 b_groups
theorem g_groups {P : Program} {w : World} {K : PySem.W.Frag} {mg : Str → Option Value} {base : Heap} (m_tuple : mg "tuple" = none) (m_range : mg "range" = none) (d_parts : Known P w K mg base 1 "parts" s_parts p_parts f_parts) {f : Addr} {fd : FuncData} (Fu : Fun K "groups" "groups" s_groups f fd) : FnG P w K mg base 2 f fd p_groups f_groups :=
  fn_sound Fu c_groups fun cdv A outer s H E c => (sss_cons (ss_ret (se_callD c d_parts (by decide) 1 rfl (sa_cons (se_tupRg1 c m_tuple m_range (se_var 0)) sa_nil)))
  sss_nil)

abbrev n__law_deck : List Str := ["_law_script", "_law_great", "_law_small", "_law_cell"]
abbrev p__law_deck : List Str := ["_law_script"]
theorem c__law_deck : FnScope n__law_deck p__law_deck (defScope s__law_deck) := ⟨rfl, rfl, rfl, by decide +kernel, rfl, by decide +kernel, by decide +kernel⟩
noncomputable def b__law_deck : MS :=
  (sSeq (sPar 1 2 (aCons (eC (.int 0)) (aCons (eBin oAdd (eC (.int 12752)) (eBin oMul (eC (.int 41)) (eCall fLen (aCons (eVar 0) aNil)))) aNil)))
  (sSeq (sFor (iAnyM (eSl (eVar 0) pNone (pSome (eC (.int 63))))) (gNm 3)
  (sSeq (sIf (tOf (eBin oGe (eVar 3) (eBin oPow (eC (.int 10)) (eC (.int 18)))))
  (sSeq (sSet 1 (eBin oSub (eBin oAdd (eBin oMul (eVar 1) (eC (.int 47))) (eVar 3)) (eBin oPow (eC (.int 10)) (eC (.int 18)))))
  sPass)
  (sSeq (sSet 2 (eBin oAdd (eBin oAdd (eBin oMul (eVar 2) (eC (.int 3202034522624059733))) (eBin oMul (eC (.int 2)) (eCall fAbs (aCons (eVar 3) aNil)))) (eCall fInt (aCons (eBin oLt (eVar 3) (eC (.int 0))) aNil))))
  (sSeq (sSet 2 (eBin oMod (eCall fInt (aCons (eVar 2) aNil)) (eC (.int 2305843009213693951))))
  sPass)))
  sPass))
  (sSeq (sRet (eLst (aCons (eVar 1) (aCons (eVar 2) (aCons (eC (.int 0)) aNil)))))
  sPass)))
noncomputable def f__law_deck : Fn := mBody 4 b__law_deck
theorem g__law_deck {P : Program} {w : World} {K : PySem.W.Frag} {mg : Str → Option Value} {base : Heap} (m_len : mg "len" = none) (m_int : mg "int" = none) (m_abs : mg "abs" = none) {f : Addr} {fd : FuncData} (Fu : Fun K "_law_deck" "_law_deck" s__law_deck f fd) : FnG P w K mg base 1 f fd p__law_deck f__law_deck :=
  fn_sound Fu c__law_deck fun cdv A outer s H E c => (sss_cons (ss_par 1 2 c (sa_cons se_int (sa_cons (se_add se_int (se_mul se_int (se_callB call_len cd_len m_len boot_len (sa_cons (se_var 0) sa_nil)))) sa_nil)))
  (sss_cons (ss_for c (si_any (se_slice (se_var 0) so_none (so_some se_int))) (sg_name 3 c.nd)
  (sss_cons (ss_if (st_cmp op_ge od_ge (se_var 3) (se_pow se_int se_int))
  (sss_cons (ss_set 1 c.nd (se_sub (se_add (se_mul (se_var 1) se_int) (se_var 3)) (se_pow se_int se_int)))
  sss_nil)
  (sss_cons (ss_set 2 c.nd (se_add (se_add (se_mul (se_var 2) se_int) (se_mul se_int (se_callB call_abs cd_abs m_abs boot_abs (sa_cons (se_var 3) sa_nil)))) (se_callTy call_int1 cd_int m_int PyProof.Rows.boot_int (sa_cons (se_cmp (op_ltA c.hr.units) od_lt (se_var 3) se_int) sa_nil))))
  (sss_cons (ss_set 2 c.nd (se_mod (se_callTy call_int1 cd_int m_int PyProof.Rows.boot_int (sa_cons (se_var 2) sa_nil)) se_int))
  sss_nil)))
  sss_nil))
  (sss_cons (ss_ret (se_lst (sa_cons (se_var 1) (sa_cons (se_var 2) (sa_cons se_int sa_nil)))))
  sss_nil)))

abbrev n__law_take : List Str := ["_law_deck_here", "_law_many", "_law_digit", "_law_mixed"]
abbrev p__law_take : List Str := ["_law_deck_here", "_law_many"]
theorem c__law_take : FnScope n__law_take p__law_take (defScope s__law_take) := ⟨rfl, rfl, rfl, by decide +kernel, rfl, by decide +kernel, by decide +kernel⟩
noncomputable def b__law_take : MS :=
  (sSeq (sIf (tOf (eBin oGt (eBin oIx (eVar 0) (eC (.int 0))) (eC (.int 0))))
  (sSeq (sSet 2 (eBin oMod (eCall fInt (aCons (eBin oIx (eVar 0) (eC (.int 0))) aNil)) (eVar 1)))
  (sSeq (sAsg (eBin oDiv (eBin oIx (eVar 0) (eC (.int 0))) (eVar 1)) (gSubM (eVar 0) (eC (.int 0))))
  (sSeq (sRet (eVar 2))
  sPass)))
  sPass)
  (sSeq (sAsg (eBin oAdd (eBin oIx (eVar 0) (eC (.int 2))) (eC (.int 1))) (gSubM (eVar 0) (eC (.int 2))))
  (sSeq (sSet 3 (eBin oAdd (eBin oAdd (eBin oMul (eBin oIx (eVar 0) (eC (.int 1))) (eC (.int 2862933555777941757))) (eBin oMul (eC (.int 1181783497276652981)) (eBin oIx (eVar 0) (eC (.int 2))))) (eC (.int 7))))
  (sSeq (sAsg (eBin oMod (eCall fInt (aCons (eVar 3) aNil)) (eC (.int 2305843009213693951))) (gSubM (eVar 0) (eC (.int 1))))
  (sSeq (sRet (eBin oMod (eBin oDiv (eBin oMod (eCall fInt (aCons (eBin oMul (eBin oIx (eVar 0) (eC (.int 1))) (eBin oIx (eVar 0) (eC (.int 1)))) aNil)) (eC (.int 2305843009213693921))) (eC (.int 4096))) (eVar 1)))
  sPass)))))
noncomputable def f__law_take : Fn := mBody 4 b__law_take
theorem g__law_take {P : Program} {w : World} {K : PySem.W.Frag} {mg : Str → Option Value} {base : Heap} (m_int : mg "int" = none) {f : Addr} {fd : FuncData} (Fu : Fun K "_law_take" "_law_take" s__law_take f fd) : FnG P w K mg base 1 f fd p__law_take f__law_take :=
  fn_sound Fu c__law_take fun cdv A outer s H E c => (sss_cons (ss_if (st_cmp op_gt od_gt (se_ix (se_var 0) se_int) se_int)
  (sss_cons (ss_set 2 c.nd (se_mod (se_callTy call_int1 cd_int m_int PyProof.Rows.boot_int (sa_cons (se_ix (se_var 0) se_int) sa_nil)) (se_var 1)))
  (sss_cons (ss_asg (se_div (se_ix (se_var 0) se_int) (se_var 1)) (sg_sub (se_var 0) se_int))
  (sss_cons (ss_ret (se_var 2))
  sss_nil)))
  sss_nil)
  (sss_cons (ss_asg (se_add (se_ix (se_var 0) se_int) se_int) (sg_sub (se_var 0) se_int))
  (sss_cons (ss_set 3 c.nd (se_add (se_add (se_mul (se_ix (se_var 0) se_int) se_int) (se_mul se_int (se_ix (se_var 0) se_int))) se_int))
  (sss_cons (ss_asg (se_mod (se_callTy call_int1 cd_int m_int PyProof.Rows.boot_int (sa_cons (se_var 3) sa_nil)) se_int) (sg_sub (se_var 0) se_int))
  (sss_cons (ss_ret (se_mod (se_div (se_mod (se_callTy call_int1 cd_int m_int PyProof.Rows.boot_int (sa_cons (se_mul (se_ix (se_var 0) se_int) (se_ix (se_var 0) se_int)) sa_nil)) se_int) se_int) (se_var 1)))
  sss_nil)))))

abbrev n__law_pick : List Str := ["_law_deck_here", "_law_some"]
abbrev p__law_pick : List Str := ["_law_deck_here", "_law_some"]
theorem c__law_pick : FnScope n__law_pick p__law_pick (defScope s__law_pick) := ⟨rfl, rfl, rfl, by decide +kernel, rfl, by decide +kernel, by decide +kernel⟩
noncomputable def b__law_pick : MS :=
  (sSeq (sRet (eBin oIx (eVar 1) (eFn1 2 f__law_take (aCons (eVar 0) (aCons (eCall fLen (aCons (eVar 1) aNil)) aNil)))))
  sPass)
noncomputable def f__law_pick : Fn := mBody 2 b__law_pick
theorem g__law_pick {P : Program} {w : World} {K : PySem.W.Frag} {mg : Str → Option Value} {base : Heap} (m_len : mg "len" = none) (d__law_take : Known P w K mg base 1 "_law_take" s__law_take p__law_take f__law_take) {f : Addr} {fd : FuncData} (Fu : Fun K "_law_pick" "_law_pick" s__law_pick f fd) : FnG P w K mg base 2 f fd p__law_pick f__law_pick :=
  fn_sound Fu c__law_pick fun cdv A outer s H E c => (sss_cons (ss_ret (se_ix (se_var 1) (se_callD c d__law_take (by decide) 2 rfl (sa_cons (se_var 0) (sa_cons (se_callB call_len cd_len m_len boot_len (sa_cons (se_var 1) sa_nil)) sa_nil)))))
  sss_nil)

abbrev n__law_odd : List Str := ["_law_deck_here", "_law_some"]
abbrev p__law_odd : List Str := ["_law_deck_here"]
theorem c__law_odd : FnScope n__law_odd p__law_odd (defScope s__law_odd) := ⟨rfl, rfl, rfl, by decide +kernel, rfl, by decide +kernel, by decide +kernel⟩
noncomputable def b__law_odd : MS :=
  (sSeq (sSet 1 (eLst (aCons (eC .non) (aCons (eC (.bl true)) (aCons (eC (.bl false)) (aCons (eC (.int 0)) (aCons (eC (.int 1)) (aCons (eNeg (eC (.int 1))) (aCons (eC (.int 2)) (aCons (eBin oPow (eC (.int 10)) (eC (.int 59))) (aCons (eC (.str "")) (aCons (eC (.str "any")) (aCons (eC (.str "odd")) (aCons (eC (.str "0")) (aCons (eC (.str "tone")) (aCons (eTup aNil) (aCons (eTup (aCons (eC (.int 0)) aNil)) (aCons (eTup (aCons (eC (.int 0)) (aCons (eC (.int 1)) aNil))) (aCons (eTup (aCons (eC (.int 1)) (aCons (eC (.int 0)) aNil))) (aCons (eTup (aCons (eC (.int 0)) (aCons (eC (.int 0)) aNil))) (aCons (eLst (aCons (eC (.int 0)) aNil)) (aCons (eLst aNil) (aCons eDict0 aNil)))))))))))))))))))))))
  (sSeq (sRet (eFn1 2 f__law_pick (aCons (eVar 0) (aCons (eBin oAdd (eVar 1) (eLst (aCons (eTup (aCons (eTup aNil) aNil)) (aCons (eTup (aCons (eTup (aCons (eC (.int 0)) aNil)) aNil)) (aCons (eTup (aCons (eC .non) aNil)) (aCons (eTup (aCons (eC (.bl true)) aNil)) (aCons (eTup (aCons (eC (.str "0")) aNil)) (aCons (eDict1 (.inr "0") (eC (.int 1))) (aCons (eTup (aCons (eTup (aCons (eC (.int 0)) (aCons (eC (.int 1)) aNil))) (aCons (eTup (aCons (eC (.int 1)) (aCons (eC (.int 2)) aNil))) aNil))) (aCons (eTup (aCons (eC (.int 1)) (aCons (eC (.str "any")) (aCons (eTup aNil) aNil)))) (aCons (eTup (aCons (eC (.int 2)) (aCons (eTup aNil) (aCons (eTup aNil) aNil)))) aNil))))))))))) aNil))))
  sPass))
noncomputable def f__law_odd : Fn := mBody 2 b__law_odd
theorem g__law_odd {P : Program} {w : World} {K : PySem.W.Frag} {mg : Str → Option Value} {base : Heap} (d__law_pick : Known P w K mg base 2 "_law_pick" s__law_pick p__law_pick f__law_pick) {f : Addr} {fd : FuncData} (Fu : Fun K "_law_odd" "_law_odd" s__law_odd f fd) : FnG P w K mg base 3 f fd p__law_odd f__law_odd :=
  fn_sound Fu c__law_odd fun cdv A outer s H E c => (sss_cons (RL.ss_set 1 c.nd (se_lst (sa_cons se_non (sa_cons se_bl (sa_cons se_bl (sa_cons se_int (sa_cons se_int (sa_cons (se_neg se_int) (sa_cons se_int (sa_cons (se_pow se_int se_int) (sa_cons se_str (sa_cons se_str (sa_cons se_str (sa_cons se_str (sa_cons se_str (sa_cons (se_tup sa_nil) (sa_cons (se_tup (sa_cons se_int sa_nil)) (sa_cons (se_tup (sa_cons se_int (sa_cons se_int sa_nil))) (sa_cons (se_tup (sa_cons se_int (sa_cons se_int sa_nil))) (sa_cons (se_tup (sa_cons se_int (sa_cons se_int sa_nil))) (sa_cons (se_lst (sa_cons se_int sa_nil)) (sa_cons (se_lst sa_nil) (sa_cons se_dict0 sa_nil)))))))))))))))))))))))
  (sss_cons (ss_ret (se_callD c d__law_pick (by decide) 2 rfl (sa_cons (se_var 0) (sa_cons (se_add (se_var 1) (se_lst (sa_cons (se_tup (sa_cons (se_tup sa_nil) sa_nil)) (sa_cons (se_tup (sa_cons (se_tup (sa_cons se_int sa_nil)) sa_nil)) (sa_cons (se_tup (sa_cons se_non sa_nil)) (sa_cons (se_tup (sa_cons se_bl sa_nil)) (sa_cons (se_tup (sa_cons se_str sa_nil)) (sa_cons (se_dict1 (k := .inr "0") pe_str se_int) (sa_cons (se_tup (sa_cons (se_tup (sa_cons se_int (sa_cons se_int sa_nil))) (sa_cons (se_tup (sa_cons se_int (sa_cons se_int sa_nil))) sa_nil))) (sa_cons (se_tup (sa_cons se_int (sa_cons se_str (sa_cons (se_tup sa_nil) sa_nil)))) (sa_cons (se_tup (sa_cons se_int (sa_cons (se_tup sa_nil) (sa_cons (se_tup sa_nil) sa_nil)))) sa_nil))))))))))) sa_nil))))
  sss_nil))

abbrev n__law_parts : List Str := ["_law_group_here", "_law_found", "_law_holder", "_law_part"]
abbrev p__law_parts : List Str := ["_law_group_here"]
theorem c__law_parts : FnScope n__law_parts p__law_parts (defScope s__law_parts) := ⟨rfl, rfl, rfl, by decide +kernel, rfl, by decide +kernel, by decide +kernel⟩
noncomputable def b__law_parts : MS :=
  (sSeq (sSet 1 (eLst (aCons (eTup aNil) aNil)))
  (sSeq (sFor (iAnyM (eVar 0)) (gNm 2)
  (sSeq (sSet 1 (eBin oAdd (eVar 1) (eComp (iAnyM (eVar 1)) (bNm 3) [3] tYesM (eBin oAdd (eVar 3) (eTup (aCons (eVar 2) aNil))))))
  sPass))
  (sSeq (sRet (eCall fSorted (aCons (eVar 1) aNil)))
  sPass)))
noncomputable def f__law_parts : Fn := mBody 4 b__law_parts
theorem g__law_parts {P : Program} {w : World} {K : PySem.W.Frag} {mg : Str → Option Value} {base : Heap} (m_sorted : mg "sorted" = none) {f : Addr} {fd : FuncData} (Fu : Fun K "_law_parts" "_law_parts" s__law_parts f fd) : FnG P w K mg base 1 f fd p__law_parts f__law_parts :=
  fn_sound Fu c__law_parts fun cdv A outer s H E c => (sss_cons (RL.ss_set 1 c.nd (se_lst (sa_cons (se_tup sa_nil) sa_nil)))
  (sss_cons (RL.ss_for c (si_any (se_var 0)) (sg_name 2 c.nd)
  (sss_cons (RL.ss_set 1 c.nd (se_add (se_var 1) (se_comp c (si_any (se_var 1)) (blkOk_by (N := n__law_parts) (sc := defScope s__law_parts) (own := [("_law_part", 3)]) (by decide +kernel)) (fun _ _ _ _ _ => pg_name (i := 3) c.nd rfl (by first | exact Or.inl rfl | exact Or.inr rfl)) (fun _ _ _ _ _ => pts_nilM) (fun s1 H1 C1 cl1 fp1 => (se_add (se_var 3) (se_tup (sa_cons (se_var 2) sa_nil)))))))
  sss_nil))
  (sss_cons (ss_ret (se_callB (call_sorted c) cd_sorted m_sorted boot_sorted (sa_cons (se_var 1) sa_nil)))
  sss_nil)))

abbrev n__law_groups : List Str := ["_law_holders"]
abbrev p__law_groups : List Str := ["_law_holders"]
theorem c__law_groups : FnScope n__law_groups p__law_groups (defScope s__law_groups) := ⟨rfl, rfl, rfl, by decide +kernel, rfl, by decide +kernel, by decide +kernel⟩
noncomputable def b__law_groups : MS :=
  (sSeq (sRet (eFn1 1 f__law_parts (aCons (eRg1 fLstRg (eVar 0)) aNil)))
  sPass)
noncomputable def f__law_groups : Fn := mBody 1 b__law_groups
theorem g__law_groups {P : Program} {w : World} {K : PySem.W.Frag} {mg : Str → Option Value} {base : Heap} (m_list : mg "list" = none) (m_range : mg "range" = none) (d__law_parts : Known P w K mg base 1 "_law_parts" s__law_parts p__law_parts f__law_parts) {f : Addr} {fd : FuncData} (Fu : Fun K "_law_groups" "_law_groups" s__law_groups f fd) : FnG P w K mg base 2 f fd p__law_groups f__law_groups :=
  fn_sound Fu c__law_groups fun cdv A outer s H E c => (sss_cons (ss_ret (se_callD c d__law_parts (by decide) 1 rfl (sa_cons (se_listRg1 c m_list m_range (se_var 0)) sa_nil)))
  sss_nil)

abbrev n__law_group : List Str := ["_law_deck_here", "_law_holders"]
abbrev p__law_group : List Str := ["_law_deck_here", "_law_holders"]
theorem c__law_group : FnScope n__law_group p__law_group (defScope s__law_group) := ⟨rfl, rfl, rfl, by decide +kernel, rfl, by decide +kernel, by decide +kernel⟩
noncomputable def b__law_group : MS :=
  (sSeq (sRet (eFn1 2 f__law_pick (aCons (eVar 0) (aCons (eFn1 1 f__law_groups (aCons (eVar 1) aNil)) aNil))))
  sPass)
noncomputable def f__law_group : Fn := mBody 2 b__law_group
theorem g__law_group {P : Program} {w : World} {K : PySem.W.Frag} {mg : Str → Option Value} {base : Heap} (d__law_pick : Known P w K mg base 2 "_law_pick" s__law_pick p__law_pick f__law_pick) (d__law_groups : Known P w K mg base 2 "_law_groups" s__law_groups p__law_groups f__law_groups) {f : Addr} {fd : FuncData} (Fu : Fun K "_law_group" "_law_group" s__law_group f fd) : FnG P w K mg base 3 f fd p__law_group f__law_group :=
  fn_sound Fu c__law_group fun cdv A outer s H E c => (sss_cons (ss_ret (se_callD c d__law_pick (by decide) 2 rfl (sa_cons (se_var 0) (sa_cons (se_callD c d__law_groups (by decide) 1 rfl (sa_cons (se_var 1) sa_nil)) sa_nil))))
  sss_nil)

abbrev n__law_is_whole : List Str := ["_law_value", "_law_low", "_law_high"]
abbrev p__law_is_whole : List Str := ["_law_value", "_law_low", "_law_high"]
theorem c__law_is_whole : FnScope n__law_is_whole p__law_is_whole (defScope s__law_is_whole) := ⟨rfl, rfl, rfl, by decide +kernel, rfl, by decide +kernel, by decide +kernel⟩
noncomputable def b__law_is_whole : MS :=
  (sSeq (sRet (eAndV (eIsi "int" (eVar 0)) (eAndV (eNotV (eIsi "bool" (eVar 0))) (eChain oLe2 oLe2 (eVar 1) (eVar 0) (eVar 2)))))
  sPass)
noncomputable def f__law_is_whole : Fn := mBody 3 b__law_is_whole
theorem g__law_is_whole {P : Program} {w : World} {K : PySem.W.Frag} {mg : Str → Option Value} {base : Heap} (m_isinstance : mg "isinstance" = none) (m_int : mg "int" = none) (m_bool : mg "bool" = none) {f : Addr} {fd : FuncData} (Fu : Fun K "_law_is_whole" "_law_is_whole" s__law_is_whole f fd) : FnG P w K mg base 1 f fd p__law_is_whole f__law_is_whole :=
  fn_sound Fu c__law_is_whole fun cdv A outer s H E c => (sss_cons (ss_ret (se_and (se_isi (T := "int") m_isinstance (by decide) m_int PyProof.Rows.boot_int (se_var 0)) (se_and (se_not (se_isi (T := "bool") m_isinstance (by decide) m_bool PyProof.Rows.boot_bool (se_var 0))) (se_one (se_chain (op_le2 c.hr.units) od_le2 (op_le2 c.hr.units) od_le2 (se_var 1) (se_var 0) (se_var 2))))))
  sss_nil)

abbrev n__law_is_group : List Str := ["_law_holders", "_law_value", "_law_holder", "_law_at"]
abbrev p__law_is_group : List Str := ["_law_holders", "_law_value"]
theorem c__law_is_group : FnScope n__law_is_group p__law_is_group (defScope s__law_is_group) := ⟨rfl, rfl, rfl, by decide +kernel, rfl, by decide +kernel, by decide +kernel⟩
noncomputable def b__law_is_group : MS :=
  (sSeq (sIf (tOrM (tNotM (tOf (eIsi "tuple" (eVar 1)))) (tOf (eBin oNe (eComp (iAnyM (eVar 1)) (bNm 2) [2] (tNotM (tOf (eFn1 3 f__law_is_whole (aCons (eVar 2) (aCons (eC (.int 0)) (aCons (eBin oSub (eVar 0) (eC (.int 1))) aNil)))))) (eC (.int 1))) (eLst aNil))))
  (sSeq (sRet (eC (.bl false)))
  sPass)
  sPass)
  (sSeq (sRet (eBin oEq (eComp (iRngM2 (aCons (eC (.int 1)) (aCons (eCall fLen (aCons (eVar 1) aNil)) aNil))) (bNm 3) [3] (tOf (eBin oGe (eBin oIx (eVar 1) (eBin oSub (eVar 3) (eC (.int 1)))) (eBin oIx (eVar 1) (eVar 3)))) (eVar 3)) (eLst aNil)))
  sPass))
noncomputable def f__law_is_group : Fn := mBody 4 b__law_is_group
theorem g__law_is_group {P : Program} {w : World} {K : PySem.W.Frag} {mg : Str → Option Value} {base : Heap} (m_isinstance : mg "isinstance" = none) (m_tuple : mg "tuple" = none) (m_range : mg "range" = none) (m_len : mg "len" = none) (d__law_is_whole : Known P w K mg base 1 "_law_is_whole" s__law_is_whole p__law_is_whole f__law_is_whole) {f : Addr} {fd : FuncData} (Fu : Fun K "_law_is_group" "_law_is_group" s__law_is_group f fd) : FnG P w K mg base 2 f fd p__law_is_group f__law_is_group :=
  fn_sound Fu c__law_is_group fun cdv A outer s H E c => (sss_cons (RL.ss_if (st_w (sw_or (st_not (st_val (se_isi (T := "tuple") m_isinstance (by decide) m_tuple PyProof.Rows.boot_tuple (se_var 1)))) (sw_or1 (st_cmp (op_neA c.hr.units) od_ne (se_comp c (si_any (se_var 1)) (blkOk_by (N := n__law_is_group) (sc := defScope s__law_is_group) (own := [("_law_holder", 2)]) (by decide +kernel)) (fun _ _ _ _ _ => pg_name (i := 2) c.nd rfl (by first | exact Or.inl rfl | exact Or.inr rfl)) (fun s1 H1 C1 cl1 fp1 => (pts_one (st_not (st_val (se_callD (Ctx.blk c _ s1 H1 C1 cl1 fp1) d__law_is_whole (by decide) 3 rfl (sa_cons (se_var 2) (sa_cons se_int (sa_cons (se_sub (se_var 0) se_int) sa_nil)))))))) (fun s1 H1 C1 cl1 fp1 => se_int)) (se_lst sa_nil)))))
  (sss_cons (ss_ret se_bl)
  sss_nil)
  sss_nil)
  (sss_cons (ss_ret (se_cmp (op_eqA c.hr.units) od_eq (se_comp c (si_range2 m_range (sa_cons se_int (sa_cons (se_callB call_len cd_len m_len boot_len (sa_cons (se_var 1) sa_nil)) sa_nil))) (blkOk_by (N := n__law_is_group) (sc := defScope s__law_is_group) (own := [("_law_at", 3)]) (by decide +kernel)) (fun _ _ _ _ _ => pg_name (i := 3) c.nd rfl (by first | exact Or.inl rfl | exact Or.inr rfl)) (fun s1 H1 C1 cl1 fp1 => (pts_one (st_cmp op_ge od_ge (se_ix (se_var 1) (se_sub (se_var 3) se_int)) (se_ix (se_var 1) (se_var 3))))) (fun s1 H1 C1 cl1 fp1 => (se_var 3))) (se_lst sa_nil)))
  sss_nil))

abbrev n__law_bent_group : List Str := ["_law_deck_here", "_law_group_here", "_law_some", "_law_one"]
abbrev p__law_bent_group : List Str := ["_law_deck_here", "_law_group_here"]
theorem c__law_bent_group : FnScope n__law_bent_group p__law_bent_group (defScope s__law_bent_group) := ⟨rfl, rfl, rfl, by decide +kernel, rfl, by decide +kernel, by decide +kernel⟩
noncomputable def b__law_bent_group : MS :=
  (sSeq (sSet 2 (eLst (aCons (eVar 1) (aCons (eRev (eVar 1)) (aCons (eBin oAdd (eVar 1) (eTup (aCons (eC (.int 0)) aNil))) (aCons (eCall fList (aCons (eVar 1) aNil)) (aCons (eSl (eVar 1) (pSome (eC (.int 1))) pNone) (aCons (eBin oAdd (eVar 1) (eTup (aCons (eC (.int 5)) aNil))) (aCons (eBin oAdd (eTup (aCons (eNeg (eC (.int 1))) aNil)) (eVar 1)) (aCons (eBin oAdd (eVar 1) (eTup (aCons (eC (.bl true)) aNil))) (aCons (eBin oAdd (eVar 1) (eTup (aCons (eC (.str "1")) aNil))) aNil)))))))))))
  (sSeq (sRet (eFn1 2 f__law_pick (aCons (eVar 0) (aCons (eBin oAdd (eVar 2) (eLst (aCons (eBin oAdd (eVar 1) (eTup (aCons (eC .non) aNil))) (aCons (eBin oAdd (eTup (aCons (eC (.bl false)) aNil)) (eVar 1)) (aCons (eCall fTuple (aCons (eComp (iAnyM (eVar 1)) (bNm 3) [3] tYesM (eIf (tOf (eBin oLt (eVar 3) (eC (.int 2)))) (eCall fBool (aCons (eVar 3) aNil)) (eVar 3))) aNil)) (aCons (eFn1 1 f__law_odd (aCons (eVar 0) aNil)) aNil)))))) aNil))))
  sPass))
noncomputable def f__law_bent_group : Fn := mBody 4 b__law_bent_group
theorem g__law_bent_group {P : Program} {w : World} {K : PySem.W.Frag} {mg : Str → Option Value} {base : Heap} (m_list : mg "list" = none) (m_tuple : mg "tuple" = none) (m_bool : mg "bool" = none) (d__law_pick : Known P w K mg base 2 "_law_pick" s__law_pick p__law_pick f__law_pick) (d__law_odd : Known P w K mg base 3 "_law_odd" s__law_odd p__law_odd f__law_odd) {f : Addr} {fd : FuncData} (Fu : Fun K "_law_bent_group" "_law_bent_group" s__law_bent_group f fd) : FnG P w K mg base 4 f fd p__law_bent_group f__law_bent_group :=
  fn_sound Fu c__law_bent_group fun cdv A outer s H E c => (sss_cons (RL.ss_set 2 c.nd (se_lst (sa_cons (se_var 1) (sa_cons (se_rev (se_var 1)) (sa_cons (se_add (se_var 1) (se_tup (sa_cons se_int sa_nil))) (sa_cons (se_callTy call_list_of cd_list m_list PyProof.Rows.boot_list (sa_cons (se_var 1) sa_nil)) (sa_cons (se_slice (se_var 1) (so_some se_int) so_none) (sa_cons (se_add (se_var 1) (se_tup (sa_cons se_int sa_nil))) (sa_cons (se_add (se_tup (sa_cons (se_neg se_int) sa_nil)) (se_var 1)) (sa_cons (se_add (se_var 1) (se_tup (sa_cons se_bl sa_nil))) (sa_cons (se_add (se_var 1) (se_tup (sa_cons se_str sa_nil))) sa_nil)))))))))))
  (sss_cons (ss_ret (se_callD c d__law_pick (by decide) 2 rfl (sa_cons (se_var 0) (sa_cons (se_add (se_var 2) (se_lst (sa_cons (se_add (se_var 1) (se_tup (sa_cons se_non sa_nil))) (sa_cons (se_add (se_tup (sa_cons se_bl sa_nil)) (se_var 1)) (sa_cons (se_callTy call_tuple_of cd_tuple m_tuple PyProof.Rows.boot_tuple (sa_cons (se_comp c (si_any (se_var 1)) (blkOk_by (N := n__law_bent_group) (sc := defScope s__law_bent_group) (own := [("_law_one", 3)]) (by decide +kernel)) (fun _ _ _ _ _ => pg_name (i := 3) c.nd rfl (by first | exact Or.inl rfl | exact Or.inr rfl)) (fun _ _ _ _ _ => pts_nilM) (fun s1 H1 C1 cl1 fp1 => (se_if (st_cmp (op_ltA (Ctx.blk c _ s1 H1 C1 cl1 fp1).hr.units) od_lt (se_var 3) se_int) (se_callTy call_bool1 cd_bool m_bool PyProof.Rows.boot_bool (sa_cons (se_var 3) sa_nil)) (se_var 3)))) sa_nil)) (sa_cons (se_callD c d__law_odd (by decide) 1 rfl (sa_cons (se_var 0) sa_nil)) sa_nil)))))) sa_nil))))
  sss_nil))

abbrev n_law : List Str := ["_law_script", "_law_deck_here", "_law_holders", "_law_every", "_law_group_here", "_law_some", "_law_value", "_law_shown", "_law_due", "_law_told", "_law_turn"]
abbrev p_law : List Str := ["_law_script"]
theorem c_law : FnScope n_law p_law (defScope s_law) := ⟨rfl, rfl, rfl, by decide +kernel, rfl, by decide +kernel, by decide +kernel⟩
noncomputable def br_law : MS :=
  (sSeq (sFor (iRngM2 (aCons (eC (.int 1)) (aCons (eC (.int 6)) aNil))) (gNm 2)
  (sSeq (sSet 3 (eFn1 1 f__law_groups (aCons (eVar 2) aNil)))
  (sSeq (sIf (tOf (eBin oNe (eCall fRepr (aCons (eLst (aCons (eFn1 1 f_groups (aCons (eVar 2) aNil)) (aCons (eFnK 0 1 1 [0] [] f_groups aNil (aCons (eVar 2) aNil)) aNil))) aNil)) (eCall fRepr (aCons (eBin oMul (eLst (aCons (eCall fTuple (aCons (eVar 3) aNil)) aNil)) (eC (.int 2))) aNil))))
  (sSeq (sRet (eC (.bl false)))
  sPass)
  sPass)
  (sSeq (sSet 4 (eFn1 2 f__law_group (aCons (eVar 1) (aCons (eVar 2) aNil))))
  (sSeq (sIf (tOf (eBin oNe (eCall fRepr (aCons (eLst (aCons (eFn1 1 f_parts (aCons (eVar 4) aNil)) (aCons (eFnK 0 1 1 [0] [] f_parts aNil (aCons (eVar 4) aNil)) (aCons (eFn1 1 f_parts (aCons (eTup aNil) aNil)) aNil)))) aNil)) (eCall fRepr (aCons (eBin oAdd (eBin oMul (eLst (aCons (eCall fTuple (aCons (eFn1 1 f__law_parts (aCons (eVar 4) aNil)) aNil)) aNil)) (eC (.int 2))) (eLst (aCons (eTup (aCons (eTup aNil) aNil)) aNil))) aNil))))
  (sSeq (sRet (eC (.bl false)))
  sPass)
  sPass)
  (sSeq (sSet 5 (eLst (aCons (eVar 4) (aCons (eBin oIx (eVar 3) (eNeg (eC (.int 1)))) (aCons (eBin oAdd (eBin oIx (eVar 3) (eNeg (eC (.int 1)))) (eTup (aCons (eVar 2) aNil))) (aCons (eTup (aCons (eVar 2) aNil)) (aCons (eTup (aCons (eNeg (eC (.int 1))) aNil)) (aCons (eTup aNil) (aCons (eTup (aCons (eC (.int 0)) (aCons (eC (.int 0)) aNil))) (aCons (eLst (aCons (eC (.int 0)) aNil)) (aCons eDict0 (aCons (eDict1 (.inl 0) (eC (.int 0))) (aCons (eC (.str "0")) aNil)))))))))))))
  (sSeq (sFor (iAnyM (eBin oAdd (eVar 5) (eComp (iRngM1 (aCons (eC (.int 8)) aNil)) (bNm 10) [10] tYesM (eFn1 2 f__law_bent_group (aCons (eVar 1) (aCons (eVar 4) aNil)))))) (gNm 6)
  (sSeq (sPar 7 8 (aCons (eCall fRepr (aCons (eVar 6) aNil)) (aCons (eFn1 2 f__law_is_group (aCons (eVar 2) (aCons (eVar 6) aNil))) aNil)))
  (sSeq (sSet 9 (eLst (aCons (eFn1 2 f_is_group (aCons (eVar 2) (aCons (eVar 6) aNil))) (aCons (eFnK 0 2 2 [1, 0] [] f_is_group aNil (aCons (eVar 6) (aCons (eVar 2) aNil))) aNil))))
  (sSeq (sIf (tOrM (tOf (eBin oNe (eCall fRepr (aCons (eVar 9) aNil)) (eCall fRepr (aCons (eLst (aCons (eVar 8) (aCons (eVar 8) aNil))) aNil)))) (tOf (eBin oNe (eCall fRepr (aCons (eVar 6) aNil)) (eVar 7))))
  (sSeq (sRet (eC (.bl false)))
  sPass)
  sPass)
  sPass))))
  sPass)))))))
  (sSeq (sRet (eC (.bl true)))
  sPass))
noncomputable def b_law : MS := sSeq (sSet 1 (eFn1 1 f__law_deck (aCons (eVar 0) aNil))) br_law
noncomputable def f_law : Fn := mBody 11 b_law
theorem g_law {P : Program} {w : World} {K : PySem.W.Frag} {mg : Str → Option Value} {base : Heap} (m_range : mg "range" = none) (m_repr : mg "repr" = none) (m_tuple : mg "tuple" = none) (d__law_deck : Known P w K mg base 1 "_law_deck" s__law_deck p__law_deck f__law_deck) (d__law_groups : Known P w K mg base 2 "_law_groups" s__law_groups p__law_groups f__law_groups) (d__law_group : Known P w K mg base 3 "_law_group" s__law_group p__law_group f__law_group) (d__law_bent_group : Known P w K mg base 4 "_law_bent_group" s__law_bent_group p__law_bent_group f__law_bent_group) (d__law_is_group : Known P w K mg base 2 "_law_is_group" s__law_is_group p__law_is_group f__law_is_group) (d_is_group : Known P w K mg base 3 "is_group" s_is_group p_is_group f_is_group) (d_groups : Known P w K mg base 2 "groups" s_groups p_groups f_groups) (d_parts : Known P w K mg base 1 "parts" s_parts p_parts f_parts) (d__law_parts : Known P w K mg base 1 "_law_parts" s__law_parts p__law_parts f__law_parts) {f : Addr} {fd : FuncData} (Fu : Fun K "law" "law" s_law f fd) : FnG P w K mg base 5 f fd p_law f_law :=
  fn_sound Fu c_law fun cdv A outer s H E c => (sss_cons (ss_set 1 c.nd (se_callD c d__law_deck (by decide) 1 rfl (sa_cons (se_var 0) sa_nil)))
  (sss_cons (RL.ss_for c (si_range2 m_range (sa_cons se_int (sa_cons se_int sa_nil))) (sg_name 2 c.nd)
  (sss_cons (RL.ss_set 3 c.nd (se_callD c d__law_groups (by decide) 1 rfl (sa_cons (se_var 2) sa_nil)))
  (sss_cons (RL.ss_if (st_cmp (op_neA c.hr.units) od_ne (se_callB (call_repr c) cd_repr m_repr boot_repr (sa_cons (se_lst (sa_cons (se_callD c d_groups (by decide) 1 rfl (sa_cons (se_var 2) sa_nil)) (sa_cons (se_callDK0 (ks := ["holders"]) c d_groups (by decide) 1 1 [0] (fun _ _ _ _ _ _ us ws h1 h2 => match us, h1, ws, h2 with | [], _, [_], _ => rfl) rfl rfl (sk_cons (se_var 2) sk_nil)) sa_nil))) sa_nil)) (se_callB (call_repr c) cd_repr m_repr boot_repr (sa_cons (se_mul (se_lst (sa_cons (se_callTy call_tuple_of cd_tuple m_tuple PyProof.Rows.boot_tuple (sa_cons (se_var 3) sa_nil)) sa_nil)) se_int) sa_nil)))
  (sss_cons (ss_ret se_bl)
  sss_nil)
  sss_nil)
  (sss_cons (RL.ss_set 4 c.nd (se_callD c d__law_group (by decide) 2 rfl (sa_cons (se_var 1) (sa_cons (se_var 2) sa_nil))))
  (sss_cons (RL.ss_if (st_cmp (op_neA c.hr.units) od_ne (se_callB (call_repr c) cd_repr m_repr boot_repr (sa_cons (se_lst (sa_cons (se_callD c d_parts (by decide) 1 rfl (sa_cons (se_var 4) sa_nil)) (sa_cons (se_callDK0 (ks := ["group"]) c d_parts (by decide) 1 1 [0] (fun _ _ _ _ _ _ us ws h1 h2 => match us, h1, ws, h2 with | [], _, [_], _ => rfl) rfl rfl (sk_cons (se_var 4) sk_nil)) (sa_cons (se_callD c d_parts (by decide) 1 rfl (sa_cons (se_tup sa_nil) sa_nil)) sa_nil)))) sa_nil)) (se_callB (call_repr c) cd_repr m_repr boot_repr (sa_cons (se_add (se_mul (se_lst (sa_cons (se_callTy call_tuple_of cd_tuple m_tuple PyProof.Rows.boot_tuple (sa_cons (se_callD c d__law_parts (by decide) 1 rfl (sa_cons (se_var 4) sa_nil)) sa_nil)) sa_nil)) se_int) (se_lst (sa_cons (se_tup (sa_cons (se_tup sa_nil) sa_nil)) sa_nil))) sa_nil)))
  (sss_cons (ss_ret se_bl)
  sss_nil)
  sss_nil)
  (sss_cons (RL.ss_set 5 c.nd (se_lst (sa_cons (se_var 4) (sa_cons (se_ix (se_var 3) (se_neg se_int)) (sa_cons (se_add (se_ix (se_var 3) (se_neg se_int)) (se_tup (sa_cons (se_var 2) sa_nil))) (sa_cons (se_tup (sa_cons (se_var 2) sa_nil)) (sa_cons (se_tup (sa_cons (se_neg se_int) sa_nil)) (sa_cons (se_tup sa_nil) (sa_cons (se_tup (sa_cons se_int (sa_cons se_int sa_nil))) (sa_cons (se_lst (sa_cons se_int sa_nil)) (sa_cons se_dict0 (sa_cons (se_dict1 (k := .inl 0) pe_int se_int) (sa_cons se_str sa_nil)))))))))))))
  (sss_cons (RL.ss_for c (si_any (se_add (se_var 5) (se_comp c (si_range1 m_range (sa_cons se_int sa_nil)) (blkOk_by (N := n_law) (sc := defScope s_law) (own := [("_law_turn", 10)]) (by decide +kernel)) (fun _ _ _ _ _ => pg_name (i := 10) c.nd rfl (by first | exact Or.inl rfl | exact Or.inr rfl)) (fun _ _ _ _ _ => pts_nilM) (fun s1 H1 C1 cl1 fp1 => (se_callD (Ctx.blk c _ s1 H1 C1 cl1 fp1) d__law_bent_group (by decide) 2 rfl (sa_cons (se_var 1) (sa_cons (se_var 4) sa_nil))))))) (sg_name 6 c.nd)
  (sss_cons (RL.ss_par 7 8 c (sa_cons (se_callB (call_repr c) cd_repr m_repr boot_repr (sa_cons (se_var 6) sa_nil)) (sa_cons (se_callD c d__law_is_group (by decide) 2 rfl (sa_cons (se_var 2) (sa_cons (se_var 6) sa_nil))) sa_nil)))
  (sss_cons (RL.ss_set 9 c.nd (se_lst (sa_cons (se_callD c d_is_group (by decide) 2 rfl (sa_cons (se_var 2) (sa_cons (se_var 6) sa_nil))) (sa_cons (se_callDK0 (ks := ["value", "holders"]) c d_is_group (by decide) 2 2 [1, 0] (fun _ _ _ _ _ _ us ws h1 h2 => match us, h1, ws, h2 with | [], _, [_, _], _ => rfl) rfl rfl (sk_cons (se_var 6) (sk_cons (se_var 2) sk_nil))) sa_nil))))
  (sss_cons (RL.ss_if (st_w (sw_or (st_cmp (op_neA c.hr.units) od_ne (se_callB (call_repr c) cd_repr m_repr boot_repr (sa_cons (se_var 9) sa_nil)) (se_callB (call_repr c) cd_repr m_repr boot_repr (sa_cons (se_lst (sa_cons (se_var 8) (sa_cons (se_var 8) sa_nil))) sa_nil))) (sw_or1 (st_cmp (op_neA c.hr.units) od_ne (se_callB (call_repr c) cd_repr m_repr boot_repr (sa_cons (se_var 6) sa_nil)) (se_var 7)))))
  (sss_cons (ss_ret se_bl)
  sss_nil)
  sss_nil)
  sss_nil))))
  sss_nil)))))))
  (sss_cons (ss_ret se_bl)
  sss_nil)))

end K01

namespace K01
open PySem PySem.Spec PyProof.Rows L2 RL RP
def pb_is_number : PSt :=
  (psSeq (psRet (pAndV (pIsi "int" (pVar 0)) (pNotV (pIsi "bool" (pVar 0)))))
  psPass)
def pf_is_number : PF := pBody 1 pb_is_number
theorem sim_is_number : SimF f_is_number pf_is_number := sf_body (b := b_is_number) (pb := pb_is_number) (
  (RP.ss_seq (RP.ss_ret (sim_andV (sim_isi (sim_var 0)) (sim_notV (sim_isi (sim_var 0)))))
  ss_pass))
def pb_is_whole : PSt :=
  (psSeq (psRet (pAndV (pFn1 1 pf_is_number (pCons (pVar 0) pNil)) (pChain pLe2 pLe2 (pVar 1) (pVar 0) (pVar 2))))
  psPass)
def pf_is_whole : PF := pBody 3 pb_is_whole
theorem sim_is_whole : SimF f_is_whole pf_is_whole := sf_body (b := b_is_whole) (pb := pb_is_whole) (
  (RP.ss_seq (RP.ss_ret (sim_andV (sim_fn1 sim_is_number (sim_cons (sim_var 0) sim_nil)) (sim_chain sop_le2 sop_le2 (sim_var 1) (sim_var 0) (sim_var 2))))
  ss_pass))
def pb_is_group : PSt :=
  (psSeq (psIf (pNotM (pTOf (pIsi "tuple" (pVar 1))))
  (psSeq (psRet (pC (.bl false)))
  psPass)
  psPass)
  (psSeq (psSet 2 (pC (.int 0)))
  (psSeq (psFor (piAny (pVar 1)) (pgNm 3)
  (psSeq (psIf (pNotM (pTOf (pFn1 3 pf_is_whole (pCons (pVar 3) (pCons (pVar 2) (pCons (pBin pSub (pVar 0) (pC (.int 1))) pNil))))))
  (psSeq (psRet (pC (.bl false)))
  psPass)
  psPass)
  (psSeq (psSet 2 (pBin pAdd (pVar 3) (pC (.int 1))))
  psPass)))
  (psSeq (psRet (pC (.bl true)))
  psPass))))
def pf_is_group : PF := pBody 4 pb_is_group
theorem sim_is_group : SimF f_is_group pf_is_group := sf_body (b := b_is_group) (pb := pb_is_group) (
  (RP.ss_seq (RP.ss_if (sim_tNot (sim_tOf (sim_isi (sim_var 1))))
  (RP.ss_seq (RP.ss_ret (sim_bl false))
  ss_pass)
  ss_pass)
  (RP.ss_seq (RP.ss_set 2 (sim_int 0))
  (RP.ss_seq (RP.ss_for (sim_iAny (sim_var 1)) (sg_nm 3)
  (RP.ss_seq (RP.ss_if (sim_tNot (sim_tOf (sim_fn1 sim_is_whole (sim_cons (sim_var 3) (sim_cons (sim_var 2) (sim_cons (sim_bin sop_sub (sim_var 0) (sim_int 1)) sim_nil))))))
  (RP.ss_seq (RP.ss_ret (sim_bl false))
  ss_pass)
  ss_pass)
  (RP.ss_seq (RP.ss_set 2 (sim_bin sop_add (sim_var 3) (sim_int 1)))
  ss_pass)))
  (RP.ss_seq (RP.ss_ret (sim_bl true))
  ss_pass)))))
def pb_parts : PSt :=
  (psSeq (psSet 1 (pLst (pCons (pTup pNil) pNil)))
  (psSeq (psFor (piAny (pVar 0)) (pgNm 2)
  (psSeq (psSet 1 (pBin pAdd (pVar 1) (pComp (piAny (pVar 1)) (pbNm 3) [3] pYes (pBin pAdd (pVar 3) (pTup (pCons (pVar 2) pNil))))))
  psPass))
  (psSeq (psRet (pCall pTuple (pCons (pCall pSorted (pCons (pVar 1) pNil)) pNil)))
  psPass)))
def pf_parts : PF := pBody 4 pb_parts
theorem sim_parts : SimF f_parts pf_parts := sf_body (b := b_parts) (pb := pb_parts) (
  (RP.ss_seq (RP.ss_set 1 (sim_lst (sim_cons (sim_tup sim_nil) sim_nil)))
  (RP.ss_seq (RP.ss_for (sim_iAny (sim_var 0)) (sg_nm 2)
  (RP.ss_seq (RP.ss_set 1 (sim_bin sop_add (sim_var 1) (sim_comp (sim_iAny (sim_var 1)) (sb_nm 3) sim_yes (sim_bin sop_add (sim_var 3) (sim_tup (sim_cons (sim_var 2) sim_nil))))))
  ss_pass))
  (RP.ss_seq (RP.ss_ret (sim_call sf_tuple (sim_cons (sim_call sf_sorted (sim_cons (sim_var 1) sim_nil)) sim_nil)))
  ss_pass))))
def pb_groups : PSt :=
  (psSeq (psRet (pFn1 1 pf_parts (pCons (pRg1 pTupRg (pVar 0)) pNil)))
  psPass)
def pf_groups : PF := pBody 1 pb_groups
theorem sim_groups : SimF f_groups pf_groups := sf_body (b := b_groups) (pb := pb_groups) (
  (RP.ss_seq (RP.ss_ret (sim_fn1 sim_parts (sim_cons (sim_rg1 srg_tup (sim_var 0)) sim_nil)))
  ss_pass))
theorem ok_take {S : Store} {p : Nat} {t n : Int} {P : D → Store → Prop} (hd : DeckOk S p t) (ht : t < 2 ^ 60) (h1 : 1 ≤ n) (h2 : n < 2 ^ 60)
    (hP : ∀ S' i, 0 ≤ i → i < n → DeckOk S' p (t + 1) → S'.length = S.length → Gr (· = p) S S' → P (.int i) S') : Ok (f__law_take [.ptr p, .int n] S) P := by
  obtain ⟨a, b, c, hS, ha, b0, b1, c0, c1⟩ := hd
  have n9 : n.natAbs.log2 < 9000 := by
    have : n.natAbs < 2 ^ 61 := by omega
    have := (Nat.log2_lt (n := n.natAbs) (k := 61) (by omega)).mpr this
    omega
  unfold f__law_take b__law_take
  simp only [Ok_ok, Ok_bind, Ok_tOf, Ok_tNot, Ok_tAnd, Ok_tOr, Ok_eIf, Ok_andV, Ok_orV, Ok_notV, Ok_chain, Ok_addI, Ok_subI, Ok_mulI, Ok_modI, Ok_divI, Ok_powI, Ok_ltI, Ok_leI, Ok_gtI, Ok_geI, Ok_addT, Ok_intI, Ok_intB, Ok_boolI, Ok_abs, Ok_lenT, Ok_tupleT, Ok_listT, Ok_ixT, Ok_slT, Ok_revT, Ok_dict0, Ok_dict1C, Ok_iAny, Ok_rngM1, Ok_rngM2, OkS_asgSub, Ok_enum, Ok_mtL, Ok_notIn, Ok_in, Ok_neS, Ok_eqS, OkS_seq, OkS_pass, OkS_ret, OkS_retN, OkS_drop, OkS_set, OkS_par, OkS_if, Ok_nil, Ok_cons, Ok_bin, Ok_eC, Ok_call, Ok_fn1, Ok_fnK, Ok_tup, Ok_lst, Ok_isi, Ok_sl, Ok_pNone, Ok_pSome, Ok_neg, Ok_rev, Ok_rg1, Ok_comp, Ok_var, Ok_body, List.map_cons, List.map_nil, List.replicate_succ, List.replicate_zero, List.length_cons, List.length_nil, Nat.reduceSub, Nat.reduceAdd, List.cons_append, List.nil_append, List.getElem?_cons_succ, List.getElem?_cons_zero, List.set_cons_succ, List.set_cons_zero, Option.some.injEq, exists_eq_left', exists_eq_left, D.bl.injEq, D.int.injEq, List.cons.injEq, true_and, and_true, pickL, wipeE, List.map, Ok_if, ex2]
  rw [Ok_ixL (.inl hS)]
  refine ⟨_, rfl, ?_⟩
  simp only [Ok_ok, Ok_bind, Ok_tOf, Ok_tNot, Ok_tAnd, Ok_tOr, Ok_eIf, Ok_andV, Ok_orV, Ok_notV, Ok_chain, Ok_addI, Ok_subI, Ok_mulI, Ok_modI, Ok_divI, Ok_powI, Ok_ltI, Ok_leI, Ok_gtI, Ok_geI, Ok_addT, Ok_intI, Ok_intB, Ok_boolI, Ok_abs, Ok_lenT, Ok_tupleT, Ok_listT, Ok_ixT, Ok_slT, Ok_revT, Ok_dict0, Ok_dict1C, Ok_iAny, Ok_rngM1, Ok_rngM2, OkS_asgSub, Ok_enum, Ok_mtL, Ok_notIn, Ok_in, Ok_neS, Ok_eqS, OkS_seq, OkS_pass, OkS_ret, OkS_retN, OkS_drop, OkS_set, OkS_par, OkS_if, Ok_nil, Ok_cons, Ok_bin, Ok_eC, Ok_call, Ok_fn1, Ok_fnK, Ok_tup, Ok_lst, Ok_isi, Ok_sl, Ok_pNone, Ok_pSome, Ok_neg, Ok_rev, Ok_rg1, Ok_comp, Ok_var, Ok_body, List.map_cons, List.map_nil, List.replicate_succ, List.replicate_zero, List.length_cons, List.length_nil, Nat.reduceSub, Nat.reduceAdd, List.cons_append, List.nil_append, List.getElem?_cons_succ, List.getElem?_cons_zero, List.set_cons_succ, List.set_cons_zero, Option.some.injEq, exists_eq_left', exists_eq_left, D.bl.injEq, D.int.injEq, List.cons.injEq, true_and, and_true, pickL, wipeE, List.map, Ok_if, ex2]
  by_cases h : 0 < a
  · rw [if_pos (by simpa using h)]
    rw [Ok_ixL (.inl hS)]
    refine ⟨_, rfl, ?_⟩
    simp only [Ok_ok, Ok_bind, Ok_tOf, Ok_tNot, Ok_tAnd, Ok_tOr, Ok_eIf, Ok_andV, Ok_orV, Ok_notV, Ok_chain, Ok_addI, Ok_subI, Ok_mulI, Ok_modI, Ok_divI, Ok_powI, Ok_ltI, Ok_leI, Ok_gtI, Ok_geI, Ok_addT, Ok_intI, Ok_intB, Ok_boolI, Ok_abs, Ok_lenT, Ok_tupleT, Ok_listT, Ok_ixT, Ok_slT, Ok_revT, Ok_dict0, Ok_dict1C, Ok_iAny, Ok_rngM1, Ok_rngM2, OkS_asgSub, Ok_enum, Ok_mtL, Ok_notIn, Ok_in, Ok_neS, Ok_eqS, OkS_seq, OkS_pass, OkS_ret, OkS_retN, OkS_drop, OkS_set, OkS_par, OkS_if, Ok_nil, Ok_cons, Ok_bin, Ok_eC, Ok_call, Ok_fn1, Ok_fnK, Ok_tup, Ok_lst, Ok_isi, Ok_sl, Ok_pNone, Ok_pSome, Ok_neg, Ok_rev, Ok_rg1, Ok_comp, Ok_var, Ok_body, List.map_cons, List.map_nil, List.replicate_succ, List.replicate_zero, List.length_cons, List.length_nil, Nat.reduceSub, Nat.reduceAdd, List.cons_append, List.nil_append, List.getElem?_cons_succ, List.getElem?_cons_zero, List.set_cons_succ, List.set_cons_zero, Option.some.injEq, exists_eq_left', exists_eq_left, D.bl.injEq, D.int.injEq, List.cons.injEq, true_and, and_true, pickL, wipeE, List.map, Ok_if, ex2]
    refine ⟨by omega, ?_⟩
    rw [Ok_ixL (.inl hS)]
    refine ⟨_, rfl, ?_⟩
    simp only [Ok_ok, Ok_bind, Ok_tOf, Ok_tNot, Ok_tAnd, Ok_tOr, Ok_eIf, Ok_andV, Ok_orV, Ok_notV, Ok_chain, Ok_addI, Ok_subI, Ok_mulI, Ok_modI, Ok_divI, Ok_powI, Ok_ltI, Ok_leI, Ok_gtI, Ok_geI, Ok_addT, Ok_intI, Ok_intB, Ok_boolI, Ok_abs, Ok_lenT, Ok_tupleT, Ok_listT, Ok_ixT, Ok_slT, Ok_revT, Ok_dict0, Ok_dict1C, Ok_iAny, Ok_rngM1, Ok_rngM2, OkS_asgSub, Ok_enum, Ok_mtL, Ok_notIn, Ok_in, Ok_neS, Ok_eqS, OkS_seq, OkS_pass, OkS_ret, OkS_retN, OkS_drop, OkS_set, OkS_par, OkS_if, Ok_nil, Ok_cons, Ok_bin, Ok_eC, Ok_call, Ok_fn1, Ok_fnK, Ok_tup, Ok_lst, Ok_isi, Ok_sl, Ok_pNone, Ok_pSome, Ok_neg, Ok_rev, Ok_rg1, Ok_comp, Ok_var, Ok_body, List.map_cons, List.map_nil, List.replicate_succ, List.replicate_zero, List.length_cons, List.length_nil, Nat.reduceSub, Nat.reduceAdd, List.cons_append, List.nil_append, List.getElem?_cons_succ, List.getElem?_cons_zero, List.set_cons_succ, List.set_cons_zero, Option.some.injEq, exists_eq_left', exists_eq_left, D.bl.injEq, D.int.injEq, List.cons.injEq, true_and, and_true, pickL, wipeE, List.map, Ok_if, ex2]
    refine ⟨⟨by omega, n9⟩, _, put_deck hS rfl, ?_⟩
    refine hP _ _ (Int.emod_nonneg _ (by omega)) (Int.emod_lt_of_pos _ (by omega)) ⟨_, b, c, get_put hS, ?_, b0, b1, c0, by omega⟩ (List.length_set) (Gr.put _ rfl)
    refine intBits_le_of_natAbs ?_ ha
    have q1 : 0 ≤ a / n := Int.ediv_nonneg (by omega) (by omega)
    have q2 : a / n ≤ a := Int.ediv_le_self _ (by omega)
    omega
  · rw [if_neg (by simpa using h)]
    rw [Ok_ixL (.inl hS)]
    refine ⟨_, rfl, ?_⟩
    simp only [Ok_ok, Ok_bind, Ok_tOf, Ok_tNot, Ok_tAnd, Ok_tOr, Ok_eIf, Ok_andV, Ok_orV, Ok_notV, Ok_chain, Ok_addI, Ok_subI, Ok_mulI, Ok_modI, Ok_divI, Ok_powI, Ok_ltI, Ok_leI, Ok_gtI, Ok_geI, Ok_addT, Ok_intI, Ok_intB, Ok_boolI, Ok_abs, Ok_lenT, Ok_tupleT, Ok_listT, Ok_ixT, Ok_slT, Ok_revT, Ok_dict0, Ok_dict1C, Ok_iAny, Ok_rngM1, Ok_rngM2, OkS_asgSub, Ok_enum, Ok_mtL, Ok_notIn, Ok_in, Ok_neS, Ok_eqS, OkS_seq, OkS_pass, OkS_ret, OkS_retN, OkS_drop, OkS_set, OkS_par, OkS_if, Ok_nil, Ok_cons, Ok_bin, Ok_eC, Ok_call, Ok_fn1, Ok_fnK, Ok_tup, Ok_lst, Ok_isi, Ok_sl, Ok_pNone, Ok_pSome, Ok_neg, Ok_rev, Ok_rg1, Ok_comp, Ok_var, Ok_body, List.map_cons, List.map_nil, List.replicate_succ, List.replicate_zero, List.length_cons, List.length_nil, Nat.reduceSub, Nat.reduceAdd, List.cons_append, List.nil_append, List.getElem?_cons_succ, List.getElem?_cons_zero, List.set_cons_succ, List.set_cons_zero, Option.some.injEq, exists_eq_left', exists_eq_left, D.bl.injEq, D.int.injEq, List.cons.injEq, true_and, and_true, pickL, wipeE, List.map, Ok_if, ex2]
    refine ⟨_, put_deck (j := 2) hS rfl, ?_⟩
    have hS1 : (S.set p (.lst ([.int a, .int b, .int c].set 2 (.int (c + 1)))))[p]? = some (.lst [.int a, .int b, .int (c + 1)]) := get_put hS
    have len1 : (S.set p (.lst ([.int a, .int b, .int c].set 2 (.int (c + 1))))).length = S.length := List.length_set
    have gr1 : Gr (· = p) S (S.set p (.lst ([.int a, .int b, .int c].set 2 (.int (c + 1))))) := Gr.put _ rfl
    have e2 : ixN [D.int a, .int b, .int c].length 2 = some 2 := rfl
    generalize S.set p (.lst ([.int a, .int b, .int c].set 2 (.int (c + 1)))) = S1 at *
    rw [Ok_ixL (.inl hS1)]
    refine ⟨_, rfl, ?_⟩
    have bb : bits b ≤ 64 := bits64 (by omega) (by omega)
    have bc : bits (c + 1) ≤ 64 := bits64 (by omega) (by omega)
    simp only [Ok_ok, Ok_bind, Ok_tOf, Ok_tNot, Ok_tAnd, Ok_tOr, Ok_eIf, Ok_andV, Ok_orV, Ok_notV, Ok_chain, Ok_addI, Ok_subI, Ok_mulI, Ok_modI, Ok_divI, Ok_powI, Ok_ltI, Ok_leI, Ok_gtI, Ok_geI, Ok_addT, Ok_intI, Ok_intB, Ok_boolI, Ok_abs, Ok_lenT, Ok_tupleT, Ok_listT, Ok_ixT, Ok_slT, Ok_revT, Ok_dict0, Ok_dict1C, Ok_iAny, Ok_rngM1, Ok_rngM2, OkS_asgSub, Ok_enum, Ok_mtL, Ok_notIn, Ok_in, Ok_neS, Ok_eqS, OkS_seq, OkS_pass, OkS_ret, OkS_retN, OkS_drop, OkS_set, OkS_par, OkS_if, Ok_nil, Ok_cons, Ok_bin, Ok_eC, Ok_call, Ok_fn1, Ok_fnK, Ok_tup, Ok_lst, Ok_isi, Ok_sl, Ok_pNone, Ok_pSome, Ok_neg, Ok_rev, Ok_rg1, Ok_comp, Ok_var, Ok_body, List.map_cons, List.map_nil, List.replicate_succ, List.replicate_zero, List.length_cons, List.length_nil, Nat.reduceSub, Nat.reduceAdd, List.cons_append, List.nil_append, List.getElem?_cons_succ, List.getElem?_cons_zero, List.set_cons_succ, List.set_cons_zero, Option.some.injEq, exists_eq_left', exists_eq_left, D.bl.injEq, D.int.injEq, List.cons.injEq, true_and, and_true, pickL, wipeE, List.map, Ok_if, ex2]
    refine ⟨?_, ?_⟩
    · have : bits 2862933555777941757 ≤ 64 := bits64 (by decide) (by decide)
      show (bits b : Int) + (bits 2862933555777941757 : Int) ≤ 134217728
      omega
    rw [Ok_ixL (.inl hS1)]
    refine ⟨_, rfl, ?_⟩
    simp only [Ok_ok, Ok_bind, Ok_tOf, Ok_tNot, Ok_tAnd, Ok_tOr, Ok_eIf, Ok_andV, Ok_orV, Ok_notV, Ok_chain, Ok_addI, Ok_subI, Ok_mulI, Ok_modI, Ok_divI, Ok_powI, Ok_ltI, Ok_leI, Ok_gtI, Ok_geI, Ok_addT, Ok_intI, Ok_intB, Ok_boolI, Ok_abs, Ok_lenT, Ok_tupleT, Ok_listT, Ok_ixT, Ok_slT, Ok_revT, Ok_dict0, Ok_dict1C, Ok_iAny, Ok_rngM1, Ok_rngM2, OkS_asgSub, Ok_enum, Ok_mtL, Ok_notIn, Ok_in, Ok_neS, Ok_eqS, OkS_seq, OkS_pass, OkS_ret, OkS_retN, OkS_drop, OkS_set, OkS_par, OkS_if, Ok_nil, Ok_cons, Ok_bin, Ok_eC, Ok_call, Ok_fn1, Ok_fnK, Ok_tup, Ok_lst, Ok_isi, Ok_sl, Ok_pNone, Ok_pSome, Ok_neg, Ok_rev, Ok_rg1, Ok_comp, Ok_var, Ok_body, List.map_cons, List.map_nil, List.replicate_succ, List.replicate_zero, List.length_cons, List.length_nil, Nat.reduceSub, Nat.reduceAdd, List.cons_append, List.nil_append, List.getElem?_cons_succ, List.getElem?_cons_zero, List.set_cons_succ, List.set_cons_zero, Option.some.injEq, exists_eq_left', exists_eq_left, D.bl.injEq, D.int.injEq, List.cons.injEq, true_and, and_true, pickL, wipeE, List.map, Ok_if, ex2]
    refine ⟨?_, ?_⟩
    · have : bits 1181783497276652981 ≤ 64 := bits64 (by decide) (by decide)
      show (bits 1181783497276652981 : Int) + (bits (c + 1) : Int) ≤ 134217728
      omega
    refine ⟨by decide, _, put_deck (j := 1) hS1 rfl, ?_⟩
    generalize hm : (b * 2862933555777941757 + 1181783497276652981 * (c + 1) + 7) % 2305843009213693951 = m
    have m0 : 0 ≤ m := by omega
    have m1 : m < 2305843009213693951 := by omega
    have hS2 : (S1.set p (.lst ([.int a, .int b, .int (c + 1)].set 1 (.int m))))[p]? = some (.lst [.int a, .int m, .int (c + 1)]) := get_put hS1
    have len2 : (S1.set p (.lst ([.int a, .int b, .int (c + 1)].set 1 (.int m)))).length = S1.length := List.length_set
    have gr2 : Gr (· = p) S1 (S1.set p (.lst ([.int a, .int b, .int (c + 1)].set 1 (.int m)))) := Gr.put _ rfl
    generalize S1.set p (.lst ([.int a, .int b, .int (c + 1)].set 1 (.int m))) = S2 at *
    rw [Ok_ixL (.inl hS2)]
    refine ⟨_, rfl, ?_⟩
    rw [Ok_ixL (.inl hS2)]
    refine ⟨_, rfl, ?_⟩
    have bm : bits m ≤ 64 := bits64 (by omega) (by omega)
    simp only [Ok_ok, Ok_bind, Ok_tOf, Ok_tNot, Ok_tAnd, Ok_tOr, Ok_eIf, Ok_andV, Ok_orV, Ok_notV, Ok_chain, Ok_addI, Ok_subI, Ok_mulI, Ok_modI, Ok_divI, Ok_powI, Ok_ltI, Ok_leI, Ok_gtI, Ok_geI, Ok_addT, Ok_intI, Ok_intB, Ok_boolI, Ok_abs, Ok_lenT, Ok_tupleT, Ok_listT, Ok_ixT, Ok_slT, Ok_revT, Ok_dict0, Ok_dict1C, Ok_iAny, Ok_rngM1, Ok_rngM2, OkS_asgSub, Ok_enum, Ok_mtL, Ok_notIn, Ok_in, Ok_neS, Ok_eqS, OkS_seq, OkS_pass, OkS_ret, OkS_retN, OkS_drop, OkS_set, OkS_par, OkS_if, Ok_nil, Ok_cons, Ok_bin, Ok_eC, Ok_call, Ok_fn1, Ok_fnK, Ok_tup, Ok_lst, Ok_isi, Ok_sl, Ok_pNone, Ok_pSome, Ok_neg, Ok_rev, Ok_rg1, Ok_comp, Ok_var, Ok_body, List.map_cons, List.map_nil, List.replicate_succ, List.replicate_zero, List.length_cons, List.length_nil, Nat.reduceSub, Nat.reduceAdd, List.cons_append, List.nil_append, List.getElem?_cons_succ, List.getElem?_cons_zero, List.set_cons_succ, List.set_cons_zero, Option.some.injEq, exists_eq_left', exists_eq_left, D.bl.injEq, D.int.injEq, List.cons.injEq, true_and, and_true, pickL, wipeE, List.map, Ok_if, ex2]
    refine ⟨?_, by decide, ⟨by decide, ?_⟩, by omega, ?_⟩
    · show (bits m : Int) + (bits m : Int) ≤ 134217728
      omega
    · exact Nat.lt_of_le_of_lt (show _ ≤ 12 by decide) (by decide)
    · exact hP _ _ (Int.emod_nonneg _ (by omega)) (Int.emod_lt_of_pos _ (by omega)) ⟨a, m, c + 1, hS2, ha, m0, by omega, by omega, by omega⟩ (len2.trans len1) (gr1.trans gr2)
theorem ok_deck {ns : List Int} {P : D → Store → Prop} (hl : ns.length ≤ 63) (hb : ∀ z ∈ ns, bits z ≤ 1048576) (hP : ∀ S' p, p < S'.length → DeckOk S' p 0 → P (.ptr p) S') : Ok (f__law_deck [.ptr 0] [.rol (ns.map D.int)]) P := by
  unfold f__law_deck b__law_deck
  simp only [Ok_ok, Ok_bind, Ok_tOf, Ok_tNot, Ok_tAnd, Ok_tOr, Ok_eIf, Ok_andV, Ok_orV, Ok_notV, Ok_chain, Ok_addI, Ok_subI, Ok_mulI, Ok_modI, Ok_divI, Ok_powI, Ok_ltI, Ok_leI, Ok_gtI, Ok_geI, Ok_addT, Ok_intI, Ok_intB, Ok_boolI, Ok_abs, Ok_lenT, Ok_tupleT, Ok_listT, Ok_ixT, Ok_slT, Ok_revT, Ok_dict0, Ok_dict1C, Ok_iAny, Ok_rngM1, Ok_rngM2, OkS_asgSub, Ok_enum, Ok_mtL, Ok_notIn, Ok_in, Ok_neS, Ok_eqS, OkS_seq, OkS_pass, OkS_ret, OkS_retN, OkS_drop, OkS_set, OkS_par, OkS_if, Ok_nil, Ok_cons, Ok_bin, Ok_eC, Ok_call, Ok_fn1, Ok_fnK, Ok_tup, Ok_lst, Ok_isi, Ok_sl, Ok_pNone, Ok_pSome, Ok_neg, Ok_rev, Ok_rg1, Ok_comp, Ok_var, Ok_body, List.map_cons, List.map_nil, List.replicate_succ, List.replicate_zero, List.length_cons, List.length_nil, Nat.reduceSub, Nat.reduceAdd, List.cons_append, List.nil_append, List.getElem?_cons_succ, List.getElem?_cons_zero, List.set_cons_succ, List.set_cons_zero, Option.some.injEq, exists_eq_left', exists_eq_left, D.bl.injEq, D.int.injEq, List.cons.injEq, true_and, and_true, pickL, wipeE, List.map, Ok_if, ex2]
  rw [Ok_lenL (.inr rfl)]
  simp only [Ok_ok, Ok_bind, Ok_tOf, Ok_tNot, Ok_tAnd, Ok_tOr, Ok_eIf, Ok_andV, Ok_orV, Ok_notV, Ok_chain, Ok_addI, Ok_subI, Ok_mulI, Ok_modI, Ok_divI, Ok_powI, Ok_ltI, Ok_leI, Ok_gtI, Ok_geI, Ok_addT, Ok_intI, Ok_intB, Ok_boolI, Ok_abs, Ok_lenT, Ok_tupleT, Ok_listT, Ok_ixT, Ok_slT, Ok_revT, Ok_dict0, Ok_dict1C, Ok_iAny, Ok_rngM1, Ok_rngM2, OkS_asgSub, Ok_enum, Ok_mtL, Ok_notIn, Ok_in, Ok_neS, Ok_eqS, OkS_seq, OkS_pass, OkS_ret, OkS_retN, OkS_drop, OkS_set, OkS_par, OkS_if, Ok_nil, Ok_cons, Ok_bin, Ok_eC, Ok_call, Ok_fn1, Ok_fnK, Ok_tup, Ok_lst, Ok_isi, Ok_sl, Ok_pNone, Ok_pSome, Ok_neg, Ok_rev, Ok_rg1, Ok_comp, Ok_var, Ok_body, List.map_cons, List.map_nil, List.replicate_succ, List.replicate_zero, List.length_cons, List.length_nil, Nat.reduceSub, Nat.reduceAdd, List.cons_append, List.nil_append, List.getElem?_cons_succ, List.getElem?_cons_zero, List.set_cons_succ, List.set_cons_zero, Option.some.injEq, exists_eq_left', exists_eq_left, D.bl.injEq, D.int.injEq, List.cons.injEq, true_and, and_true, pickL, wipeE, List.map, Ok_if, ex2]
  refine ⟨?_, ?_⟩
  · exact mul_ok (bits64 (by decide) (by decide)) (intBits_cast_le (by rw [List.length_map]; exact Nat.le_trans hl (by decide))) (by decide)
  have fin : ∀ (ms : List Int) (S1 : Store) (chk : Store → Prop), chk S1 → ms.length ≤ 63 → (∀ z ∈ ms, bits z ≤ 1048576) → ∀ (p : Ps), (∀ great small o, bits great ≤ 2000000 → 0 ≤ small → small < 2 ^ 61 → p.nx [some (.ptr 0), some (.int great), some (.int small), o] S1) →
      OkS (forM chk (gNm 3)
        (sSeq (sIf (tOf (eBin oGe (eVar 3) (eBin oPow (eC (.int 10)) (eC (.int 18)))))
          (sSeq (sSet 1 (eBin oSub (eBin oAdd (eBin oMul (eVar 1) (eC (.int 47))) (eVar 3)) (eBin oPow (eC (.int 10)) (eC (.int 18))))) sPass)
          (sSeq (sSet 2 (eBin oAdd (eBin oAdd (eBin oMul (eVar 2) (eC (.int 3202034522624059733))) (eBin oMul (eC (.int 2)) (eCall fAbs (aCons (eVar 3) aNil)))) (eCall fInt (aCons (eBin oLt (eVar 3) (eC (.int 0))) aNil))))
          (sSeq (sSet 2 (eBin oMod (eCall fInt (aCons (eVar 2) aNil)) (eC (.int 2305843009213693951)))) sPass))) sPass) (ms.map D.int)
        [some (.ptr 0), some (.int 0), some (.int (12752 + 41 * ((ns.map D.int).length : Int))), none] S1) p := by
    intro ms S1 chk hc hm hz p hp
    refine forM_inv (fun xs ρ S' => ∃ (ms : List Int) (great small : Int) (o : Option D), xs = ms.map D.int ∧ ρ = [some (.ptr 0), some (.int great), some (.int small), o] ∧ S' = S1 ∧ bits great ≤ 1048576 + 8 * (63 - ms.length) ∧ 0 ≤ small ∧ small < 2 ^ 61 ∧ ms.length ≤ 63 ∧ ∀ z ∈ ms, bits z ≤ 1048576) ?_ ?_ _ _ _
      ⟨ms, 0, _, none, rfl, rfl, rfl, ?_, ?_, ?_, hm, hz⟩
    · rintro x xs ρ S' ⟨ms, great, small, o, e, rfl, rfl, h1, h2, h3, h4, h5⟩
      cases ms with
      | nil => cases e
      | cons z ms =>
        rw [List.map_cons] at e
        cases e
        have hz := h5 z List.mem_cons_self
        rw [List.length_cons] at h1 h4
        simp only [Ok_ok, Ok_bind, Ok_tOf, Ok_tNot, Ok_tAnd, Ok_tOr, Ok_eIf, Ok_andV, Ok_orV, Ok_notV, Ok_chain, Ok_addI, Ok_subI, Ok_mulI, Ok_modI, Ok_divI, Ok_powI, Ok_ltI, Ok_leI, Ok_gtI, Ok_geI, Ok_addT, Ok_intI, Ok_intB, Ok_boolI, Ok_abs, Ok_lenT, Ok_tupleT, Ok_listT, Ok_ixT, Ok_slT, Ok_revT, Ok_dict0, Ok_dict1C, Ok_iAny, Ok_rngM1, Ok_rngM2, OkS_asgSub, Ok_enum, Ok_mtL, Ok_notIn, Ok_in, Ok_neS, Ok_eqS, OkS_seq, OkS_pass, OkS_ret, OkS_retN, OkS_drop, OkS_set, OkS_par, OkS_if, Ok_nil, Ok_cons, Ok_bin, Ok_eC, Ok_call, Ok_fn1, Ok_fnK, Ok_tup, Ok_lst, Ok_isi, Ok_sl, Ok_pNone, Ok_pSome, Ok_neg, Ok_rev, Ok_rg1, OkS_for, Ok_comp, Ok_var, Ok_body, List.map_cons, List.map_nil, List.replicate_succ, List.replicate_zero, List.length_cons, List.length_nil, Nat.reduceSub, Nat.reduceAdd, List.cons_append, List.nil_append, List.getElem?_cons_succ, List.getElem?_cons_zero, List.set_cons_succ, List.set_cons_zero, Option.some.injEq, exists_eq_left', exists_eq_left, D.bl.injEq, D.int.injEq, List.cons.injEq, true_and, and_true, pickL, wipeE, List.map, Ok_if, ex2]
        refine ⟨⟨by decide, by decide, by decide⟩, ?_⟩
        have p18 : (10 : Int) ^ Int.toNat 18 = 1000000000000000000 := by decide
        rw [p18]
        have b47 : bits 47 ≤ 6 := by decide +kernel
        have b18 : bits 1000000000000000000 ≤ 64 := bits64 (by decide) (by decide)
        by_cases h : 1000000000000000000 ≤ z
        · rw [if_pos (by simpa using h)]
          have q3 := step_bits h1 (Nat.le_add_right _ _) hz
          refine ⟨mul_ok h1 b47 ?_, ⟨by decide, by decide, by decide⟩, hc, ms, great * 47 + z - 1000000000000000000, small, some (.int z), rfl, ⟨rfl, rfl, rfl⟩, Nat.le_trans q3 ?_, h2, h3, ?_, fun y hy => h5 y (List.mem_cons_of_mem _ hy)⟩
          · exact qa h4
          · exact qb h4
          · exact qc h4
        · rw [if_neg (by simpa using h)]
          have bs : bits small ≤ 64 := bits64 (by omega) (by omega)
          have bk : bits 3202034522624059733 ≤ 64 := bits64 (by decide) (by decide)
          have b2 : bits 2 ≤ 64 := bits64 (by decide) (by decide)
          have ba : bits (if z < 0 then -z else z) ≤ 1048576 := by
            split
            · exact intBits_neg_le hz
            · exact hz
          refine ⟨mul_ok bs bk (by decide), mul_ok b2 ba (by decide), by decide, hc, ms, great, _, some (.int z), rfl, ⟨rfl, rfl, rfl⟩, Nat.le_trans h1 ?_, Int.emod_nonneg _ (by decide), ?_, ?_, fun y hy => h5 y (List.mem_cons_of_mem _ hy)⟩
          · exact qd h4
          · exact Int.lt_trans (Int.emod_lt_of_pos _ (by decide)) (by decide)
          · exact qc h4
    · rintro ρ S' ⟨ms, great, small, o, e, rfl, rfl, h1, h2, h3, h4, h5⟩
      exact hp great small o (Nat.le_trans h1 qe) h2 h3
    · rw [show bits 0 = 0 by decide]; exact Nat.zero_le _
    · exact qf _
    · rw [List.length_map]; exact qg hl
  rw [OkS_for, Ok_iAny]
  simp only [Ok_ok, Ok_bind, Ok_tOf, Ok_tNot, Ok_tAnd, Ok_tOr, Ok_eIf, Ok_andV, Ok_orV, Ok_notV, Ok_chain, Ok_addI, Ok_subI, Ok_mulI, Ok_modI, Ok_divI, Ok_powI, Ok_ltI, Ok_leI, Ok_gtI, Ok_geI, Ok_addT, Ok_intI, Ok_intB, Ok_boolI, Ok_abs, Ok_lenT, Ok_tupleT, Ok_listT, Ok_ixT, Ok_slT, Ok_revT, Ok_dict0, Ok_dict1C, Ok_iAny, Ok_rngM1, Ok_rngM2, OkS_asgSub, Ok_enum, Ok_mtL, Ok_notIn, Ok_in, Ok_neS, Ok_eqS, OkS_seq, OkS_pass, OkS_ret, OkS_retN, OkS_drop, OkS_set, OkS_par, OkS_if, Ok_nil, Ok_cons, Ok_bin, Ok_eC, Ok_call, Ok_fn1, Ok_fnK, Ok_tup, Ok_lst, Ok_isi, Ok_sl, Ok_pNone, Ok_pSome, Ok_neg, Ok_rev, Ok_rg1, Ok_comp, Ok_var, Ok_body, List.map_cons, List.map_nil, List.replicate_succ, List.replicate_zero, List.length_cons, List.length_nil, Nat.reduceSub, Nat.reduceAdd, List.cons_append, List.nil_append, List.getElem?_cons_succ, List.getElem?_cons_zero, List.set_cons_succ, List.set_cons_zero, Option.some.injEq, exists_eq_left', exists_eq_left, D.bl.injEq, D.int.injEq, List.cons.injEq, true_and, and_true, pickL, wipeE, List.map, Ok_if, ex2]
  rw [Ok_slL (.inr rfl)]
  obtain ⟨k, e1, e2⟩ := cut63 (ns.map D.int)
  rw [e1] at *
  refine ⟨_, ⟨_, .inl ⟨get_last _ _, rfl⟩⟩, get_last _ _, ?_⟩
  rw [← List.map_take] at *
  refine fin _ _ _ (get_last _ _) (by rw [List.length_map] at e2; exact e2) (fun z hz => hb z (List.mem_of_mem_take hz)) _ fun great small o h1 h2 h3 => ?_
  simp only [Ok_ok, Ok_bind, Ok_tOf, Ok_tNot, Ok_tAnd, Ok_tOr, Ok_eIf, Ok_andV, Ok_orV, Ok_notV, Ok_chain, Ok_addI, Ok_subI, Ok_mulI, Ok_modI, Ok_divI, Ok_powI, Ok_ltI, Ok_leI, Ok_gtI, Ok_geI, Ok_addT, Ok_intI, Ok_intB, Ok_boolI, Ok_abs, Ok_lenT, Ok_tupleT, Ok_listT, Ok_ixT, Ok_slT, Ok_revT, Ok_dict0, Ok_dict1C, Ok_iAny, Ok_rngM1, Ok_rngM2, OkS_asgSub, Ok_enum, Ok_mtL, Ok_notIn, Ok_in, Ok_neS, Ok_eqS, OkS_seq, OkS_pass, OkS_ret, OkS_retN, OkS_drop, OkS_set, OkS_par, OkS_if, Ok_nil, Ok_cons, Ok_bin, Ok_eC, Ok_call, Ok_fn1, Ok_fnK, Ok_tup, Ok_lst, Ok_isi, Ok_sl, Ok_pNone, Ok_pSome, Ok_neg, Ok_rev, Ok_rg1, Ok_comp, Ok_var, Ok_body, List.map_cons, List.map_nil, List.replicate_succ, List.replicate_zero, List.length_cons, List.length_nil, Nat.reduceSub, Nat.reduceAdd, List.cons_append, List.nil_append, List.getElem?_cons_succ, List.getElem?_cons_zero, List.set_cons_succ, List.set_cons_zero, Option.some.injEq, exists_eq_left', exists_eq_left, D.bl.injEq, D.int.injEq, List.cons.injEq, true_and, and_true, pickL, wipeE, List.map, Ok_if, ex2]
  exact ⟨by decide, hP _ _ (by simp) ⟨great, small, 0, rfl, h1, h2, h3, by decide, by decide⟩⟩

abbrev pf__law_take : PF := pTake
theorem sim__law_take : SimF f__law_take pf__law_take := sf_take ok_take
theorem deck_ok : ∀ ns : List Int, ns.length ≤ 63 → (∀ z ∈ ns, bits z ≤ 1048576) → Ok (f__law_deck [.ptr 0] [.rol (ns.map D.int)]) fun d S' => ∃ p, d = .ptr p ∧ DeckOk S' p 0 :=
  fun ns h1 h2 => ok_deck h1 h2 fun S' p _ h => ⟨p, rfl, h⟩

def pb__law_pick : PSt :=
  (psSeq (psRet (pBin pIx (pVar 1) (pFn1 2 pf__law_take (pCons (pVar 0) (pCons (pCall pLen (pCons (pVar 1) pNil)) pNil)))))
  psPass)
def pf__law_pick : PF := pBody 2 pb__law_pick
theorem sim__law_pick : SimF f__law_pick pf__law_pick := sf_body (b := b__law_pick) (pb := pb__law_pick) (
  (RP.ss_seq (RP.ss_ret (sim_bin sop_ix (sim_var 1) (sim_fn1 sim__law_take (sim_cons (sim_var 0) (sim_cons (sim_call sf_len (sim_cons (sim_var 1) sim_nil)) sim_nil)))))
  ss_pass))
def pb__law_odd : PSt :=
  (psSeq (psSet 1 (pLst (pCons (pC .non) (pCons (pC (.bl true)) (pCons (pC (.bl false)) (pCons (pC (.int 0)) (pCons (pC (.int 1)) (pCons (pNeg (pC (.int 1))) (pCons (pC (.int 2)) (pCons (pBin pPow (pC (.int 10)) (pC (.int 59))) (pCons (pC (.str "")) (pCons (pC (.str "any")) (pCons (pC (.str "odd")) (pCons (pC (.str "0")) (pCons (pC (.str "tone")) (pCons (pTup pNil) (pCons (pTup (pCons (pC (.int 0)) pNil)) (pCons (pTup (pCons (pC (.int 0)) (pCons (pC (.int 1)) pNil))) (pCons (pTup (pCons (pC (.int 1)) (pCons (pC (.int 0)) pNil))) (pCons (pTup (pCons (pC (.int 0)) (pCons (pC (.int 0)) pNil))) (pCons (pLst (pCons (pC (.int 0)) pNil)) (pCons (pLst pNil) (pCons pDict0 pNil)))))))))))))))))))))))
  (psSeq (psRet (pFn1 2 pf__law_pick (pCons (pVar 0) (pCons (pBin pAdd (pVar 1) (pLst (pCons (pTup (pCons (pTup pNil) pNil)) (pCons (pTup (pCons (pTup (pCons (pC (.int 0)) pNil)) pNil)) (pCons (pTup (pCons (pC .non) pNil)) (pCons (pTup (pCons (pC (.bl true)) pNil)) (pCons (pTup (pCons (pC (.str "0")) pNil)) (pCons (pDict1 (.inr "0") (pC (.int 1))) (pCons (pTup (pCons (pTup (pCons (pC (.int 0)) (pCons (pC (.int 1)) pNil))) (pCons (pTup (pCons (pC (.int 1)) (pCons (pC (.int 2)) pNil))) pNil))) (pCons (pTup (pCons (pC (.int 1)) (pCons (pC (.str "any")) (pCons (pTup pNil) pNil)))) (pCons (pTup (pCons (pC (.int 2)) (pCons (pTup pNil) (pCons (pTup pNil) pNil)))) pNil))))))))))) pNil))))
  psPass))
def pf__law_odd : PF := pBody 2 pb__law_odd
theorem sim__law_odd : SimF f__law_odd pf__law_odd := sf_body (b := b__law_odd) (pb := pb__law_odd) (
  (RP.ss_seq (RP.ss_set 1 (sim_lst (sim_cons sim_non (sim_cons (sim_bl true) (sim_cons (sim_bl false) (sim_cons (sim_int 0) (sim_cons (sim_int 1) (sim_cons (sim_neg (sim_int 1)) (sim_cons (sim_int 2) (sim_cons (sim_bin sop_pow (sim_int 10) (sim_int 59)) (sim_cons (sim_str "") (sim_cons (sim_str "any") (sim_cons (sim_str "odd") (sim_cons (sim_str "0") (sim_cons (sim_str "tone") (sim_cons (sim_tup sim_nil) (sim_cons (sim_tup (sim_cons (sim_int 0) sim_nil)) (sim_cons (sim_tup (sim_cons (sim_int 0) (sim_cons (sim_int 1) sim_nil))) (sim_cons (sim_tup (sim_cons (sim_int 1) (sim_cons (sim_int 0) sim_nil))) (sim_cons (sim_tup (sim_cons (sim_int 0) (sim_cons (sim_int 0) sim_nil))) (sim_cons (sim_lst (sim_cons (sim_int 0) sim_nil)) (sim_cons (sim_lst sim_nil) (sim_cons sim_dict0 sim_nil)))))))))))))))))))))))
  (RP.ss_seq (RP.ss_ret (sim_fn1 sim__law_pick (sim_cons (sim_var 0) (sim_cons (sim_bin sop_add (sim_var 1) (sim_lst (sim_cons (sim_tup (sim_cons (sim_tup sim_nil) sim_nil)) (sim_cons (sim_tup (sim_cons (sim_tup (sim_cons (sim_int 0) sim_nil)) sim_nil)) (sim_cons (sim_tup (sim_cons sim_non sim_nil)) (sim_cons (sim_tup (sim_cons (sim_bl true) sim_nil)) (sim_cons (sim_tup (sim_cons (sim_str "0") sim_nil)) (sim_cons (sim_dict1 (.inr "0") (sim_int 1)) (sim_cons (sim_tup (sim_cons (sim_tup (sim_cons (sim_int 0) (sim_cons (sim_int 1) sim_nil))) (sim_cons (sim_tup (sim_cons (sim_int 1) (sim_cons (sim_int 2) sim_nil))) sim_nil))) (sim_cons (sim_tup (sim_cons (sim_int 1) (sim_cons (sim_str "any") (sim_cons (sim_tup sim_nil) sim_nil)))) (sim_cons (sim_tup (sim_cons (sim_int 2) (sim_cons (sim_tup sim_nil) (sim_cons (sim_tup sim_nil) sim_nil)))) sim_nil))))))))))) sim_nil))))
  ss_pass)))
def pb__law_parts : PSt :=
  (psSeq (psSet 1 (pLst (pCons (pTup pNil) pNil)))
  (psSeq (psFor (piAny (pVar 0)) (pgNm 2)
  (psSeq (psSet 1 (pBin pAdd (pVar 1) (pComp (piAny (pVar 1)) (pbNm 3) [3] pYes (pBin pAdd (pVar 3) (pTup (pCons (pVar 2) pNil))))))
  psPass))
  (psSeq (psRet (pCall pSorted (pCons (pVar 1) pNil)))
  psPass)))
def pf__law_parts : PF := pBody 4 pb__law_parts
theorem sim__law_parts : SimF f__law_parts pf__law_parts := sf_body (b := b__law_parts) (pb := pb__law_parts) (
  (RP.ss_seq (RP.ss_set 1 (sim_lst (sim_cons (sim_tup sim_nil) sim_nil)))
  (RP.ss_seq (RP.ss_for (sim_iAny (sim_var 0)) (sg_nm 2)
  (RP.ss_seq (RP.ss_set 1 (sim_bin sop_add (sim_var 1) (sim_comp (sim_iAny (sim_var 1)) (sb_nm 3) sim_yes (sim_bin sop_add (sim_var 3) (sim_tup (sim_cons (sim_var 2) sim_nil))))))
  ss_pass))
  (RP.ss_seq (RP.ss_ret (sim_call sf_sorted (sim_cons (sim_var 1) sim_nil)))
  ss_pass))))
def pb__law_groups : PSt :=
  (psSeq (psRet (pFn1 1 pf__law_parts (pCons (pRg1 pLstRg (pVar 0)) pNil)))
  psPass)
def pf__law_groups : PF := pBody 1 pb__law_groups
theorem sim__law_groups : SimF f__law_groups pf__law_groups := sf_body (b := b__law_groups) (pb := pb__law_groups) (
  (RP.ss_seq (RP.ss_ret (sim_fn1 sim__law_parts (sim_cons (sim_rg1 srg_lst (sim_var 0)) sim_nil)))
  ss_pass))
def pb__law_group : PSt :=
  (psSeq (psRet (pFn1 2 pf__law_pick (pCons (pVar 0) (pCons (pFn1 1 pf__law_groups (pCons (pVar 1) pNil)) pNil))))
  psPass)
def pf__law_group : PF := pBody 2 pb__law_group
theorem sim__law_group : SimF f__law_group pf__law_group := sf_body (b := b__law_group) (pb := pb__law_group) (
  (RP.ss_seq (RP.ss_ret (sim_fn1 sim__law_pick (sim_cons (sim_var 0) (sim_cons (sim_fn1 sim__law_groups (sim_cons (sim_var 1) sim_nil)) sim_nil))))
  ss_pass))
def pb__law_is_whole : PSt :=
  (psSeq (psRet (pAndV (pIsi "int" (pVar 0)) (pAndV (pNotV (pIsi "bool" (pVar 0))) (pChain pLe2 pLe2 (pVar 1) (pVar 0) (pVar 2)))))
  psPass)
def pf__law_is_whole : PF := pBody 3 pb__law_is_whole
theorem sim__law_is_whole : SimF f__law_is_whole pf__law_is_whole := sf_body (b := b__law_is_whole) (pb := pb__law_is_whole) (
  (RP.ss_seq (RP.ss_ret (sim_andV (sim_isi (sim_var 0)) (sim_andV (sim_notV (sim_isi (sim_var 0))) (sim_chain sop_le2 sop_le2 (sim_var 1) (sim_var 0) (sim_var 2)))))
  ss_pass))
def pb__law_is_group : PSt :=
  (psSeq (psIf (pOrM (pNotM (pTOf (pIsi "tuple" (pVar 1)))) (pTOf (pBin pNe (pComp (piAny (pVar 1)) (pbNm 2) [2] (pNotM (pTOf (pFn1 3 pf__law_is_whole (pCons (pVar 2) (pCons (pC (.int 0)) (pCons (pBin pSub (pVar 0) (pC (.int 1))) pNil)))))) (pC (.int 1))) (pLst pNil))))
  (psSeq (psRet (pC (.bl false)))
  psPass)
  psPass)
  (psSeq (psRet (pBin pEq (pComp (piRng2 (pCons (pC (.int 1)) (pCons (pCall pLen (pCons (pVar 1) pNil)) pNil))) (pbNm 3) [3] (pTOf (pBin pGe (pBin pIx (pVar 1) (pBin pSub (pVar 3) (pC (.int 1)))) (pBin pIx (pVar 1) (pVar 3)))) (pVar 3)) (pLst pNil)))
  psPass))
def pf__law_is_group : PF := pBody 4 pb__law_is_group
theorem sim__law_is_group : SimF f__law_is_group pf__law_is_group := sf_body (b := b__law_is_group) (pb := pb__law_is_group) (
  (RP.ss_seq (RP.ss_if (sim_tOr (sim_tNot (sim_tOf (sim_isi (sim_var 1)))) (sim_tOf (sim_bin sop_ne (sim_comp (sim_iAny (sim_var 1)) (sb_nm 2) (sim_tNot (sim_tOf (sim_fn1 sim__law_is_whole (sim_cons (sim_var 2) (sim_cons (sim_int 0) (sim_cons (sim_bin sop_sub (sim_var 0) (sim_int 1)) sim_nil)))))) (sim_int 1)) (sim_lst sim_nil))))
  (RP.ss_seq (RP.ss_ret (sim_bl false))
  ss_pass)
  ss_pass)
  (RP.ss_seq (RP.ss_ret (sim_bin sop_eq (sim_comp (sim_iRng2 (sim_cons (sim_int 1) (sim_cons (sim_call sf_len (sim_cons (sim_var 1) sim_nil)) sim_nil))) (sb_nm 3) (sim_tOf (sim_bin sop_ge (sim_bin sop_ix (sim_var 1) (sim_bin sop_sub (sim_var 3) (sim_int 1))) (sim_bin sop_ix (sim_var 1) (sim_var 3)))) (sim_var 3)) (sim_lst sim_nil)))
  ss_pass)))
def pb__law_bent_group : PSt :=
  (psSeq (psSet 2 (pLst (pCons (pVar 1) (pCons (pRev (pVar 1)) (pCons (pBin pAdd (pVar 1) (pTup (pCons (pC (.int 0)) pNil))) (pCons (pCall pList (pCons (pVar 1) pNil)) (pCons (pSl (pVar 1) (poSome (pC (.int 1))) poNone) (pCons (pBin pAdd (pVar 1) (pTup (pCons (pC (.int 5)) pNil))) (pCons (pBin pAdd (pTup (pCons (pNeg (pC (.int 1))) pNil)) (pVar 1)) (pCons (pBin pAdd (pVar 1) (pTup (pCons (pC (.bl true)) pNil))) (pCons (pBin pAdd (pVar 1) (pTup (pCons (pC (.str "1")) pNil))) pNil)))))))))))
  (psSeq (psRet (pFn1 2 pf__law_pick (pCons (pVar 0) (pCons (pBin pAdd (pVar 2) (pLst (pCons (pBin pAdd (pVar 1) (pTup (pCons (pC .non) pNil))) (pCons (pBin pAdd (pTup (pCons (pC (.bl false)) pNil)) (pVar 1)) (pCons (pCall pTuple (pCons (pComp (piAny (pVar 1)) (pbNm 3) [3] pYes (pIf (pTOf (pBin pLt (pVar 3) (pC (.int 2)))) (pCall pBool (pCons (pVar 3) pNil)) (pVar 3))) pNil)) (pCons (pFn1 1 pf__law_odd (pCons (pVar 0) pNil)) pNil)))))) pNil))))
  psPass))
def pf__law_bent_group : PF := pBody 4 pb__law_bent_group
theorem sim__law_bent_group : SimF f__law_bent_group pf__law_bent_group := sf_body (b := b__law_bent_group) (pb := pb__law_bent_group) (
  (RP.ss_seq (RP.ss_set 2 (sim_lst (sim_cons (sim_var 1) (sim_cons (sim_rev (sim_var 1)) (sim_cons (sim_bin sop_add (sim_var 1) (sim_tup (sim_cons (sim_int 0) sim_nil))) (sim_cons (sim_call sf_list (sim_cons (sim_var 1) sim_nil)) (sim_cons (sim_sl (sim_var 1) (sim_some (sim_int 1)) sim_none) (sim_cons (sim_bin sop_add (sim_var 1) (sim_tup (sim_cons (sim_int 5) sim_nil))) (sim_cons (sim_bin sop_add (sim_tup (sim_cons (sim_neg (sim_int 1)) sim_nil)) (sim_var 1)) (sim_cons (sim_bin sop_add (sim_var 1) (sim_tup (sim_cons (sim_bl true) sim_nil))) (sim_cons (sim_bin sop_add (sim_var 1) (sim_tup (sim_cons (sim_str "1") sim_nil))) sim_nil)))))))))))
  (RP.ss_seq (RP.ss_ret (sim_fn1 sim__law_pick (sim_cons (sim_var 0) (sim_cons (sim_bin sop_add (sim_var 2) (sim_lst (sim_cons (sim_bin sop_add (sim_var 1) (sim_tup (sim_cons sim_non sim_nil))) (sim_cons (sim_bin sop_add (sim_tup (sim_cons (sim_bl false) sim_nil)) (sim_var 1)) (sim_cons (sim_call sf_tuple (sim_cons (sim_comp (sim_iAny (sim_var 1)) (sb_nm 3) sim_yes (sim_eIf (sim_tOf (sim_bin sop_lt (sim_var 3) (sim_int 2))) (sim_call sf_bool (sim_cons (sim_var 3) sim_nil)) (sim_var 3))) sim_nil)) (sim_cons (sim_fn1 sim__law_odd (sim_cons (sim_var 0) sim_nil)) sim_nil)))))) sim_nil))))
  ss_pass)))
def pbr_law : PSt :=
  (psSeq (psFor (piRng2 (pCons (pC (.int 1)) (pCons (pC (.int 6)) pNil))) (pgNm 2)
  (psSeq (psSet 3 (pFn1 1 pf__law_groups (pCons (pVar 2) pNil)))
  (psSeq (psIf (pTOf (pBin pNe (pCall pRepr (pCons (pLst (pCons (pFn1 1 pf_groups (pCons (pVar 2) pNil)) (pCons (pFnK 0 1 1 [0] [] pf_groups pNil (pCons (pVar 2) pNil)) pNil))) pNil)) (pCall pRepr (pCons (pBin pMul (pLst (pCons (pCall pTuple (pCons (pVar 3) pNil)) pNil)) (pC (.int 2))) pNil))))
  (psSeq (psRet (pC (.bl false)))
  psPass)
  psPass)
  (psSeq (psSet 4 (pFn1 2 pf__law_group (pCons (pVar 1) (pCons (pVar 2) pNil))))
  (psSeq (psIf (pTOf (pBin pNe (pCall pRepr (pCons (pLst (pCons (pFn1 1 pf_parts (pCons (pVar 4) pNil)) (pCons (pFnK 0 1 1 [0] [] pf_parts pNil (pCons (pVar 4) pNil)) (pCons (pFn1 1 pf_parts (pCons (pTup pNil) pNil)) pNil)))) pNil)) (pCall pRepr (pCons (pBin pAdd (pBin pMul (pLst (pCons (pCall pTuple (pCons (pFn1 1 pf__law_parts (pCons (pVar 4) pNil)) pNil)) pNil)) (pC (.int 2))) (pLst (pCons (pTup (pCons (pTup pNil) pNil)) pNil))) pNil))))
  (psSeq (psRet (pC (.bl false)))
  psPass)
  psPass)
  (psSeq (psSet 5 (pLst (pCons (pVar 4) (pCons (pBin pIx (pVar 3) (pNeg (pC (.int 1)))) (pCons (pBin pAdd (pBin pIx (pVar 3) (pNeg (pC (.int 1)))) (pTup (pCons (pVar 2) pNil))) (pCons (pTup (pCons (pVar 2) pNil)) (pCons (pTup (pCons (pNeg (pC (.int 1))) pNil)) (pCons (pTup pNil) (pCons (pTup (pCons (pC (.int 0)) (pCons (pC (.int 0)) pNil))) (pCons (pLst (pCons (pC (.int 0)) pNil)) (pCons pDict0 (pCons (pDict1 (.inl 0) (pC (.int 0))) (pCons (pC (.str "0")) pNil)))))))))))))
  (psSeq (psFor (piAny (pBin pAdd (pVar 5) (pComp (piRng1 (pCons (pC (.int 8)) pNil)) (pbNm 10) [10] pYes (pFn1 2 pf__law_bent_group (pCons (pVar 1) (pCons (pVar 4) pNil)))))) (pgNm 6)
  (psSeq (psPar 7 8 (pCons (pCall pRepr (pCons (pVar 6) pNil)) (pCons (pFn1 2 pf__law_is_group (pCons (pVar 2) (pCons (pVar 6) pNil))) pNil)))
  (psSeq (psSet 9 (pLst (pCons (pFn1 2 pf_is_group (pCons (pVar 2) (pCons (pVar 6) pNil))) (pCons (pFnK 0 2 2 [1, 0] [] pf_is_group pNil (pCons (pVar 6) (pCons (pVar 2) pNil))) pNil))))
  (psSeq (psIf (pOrM (pTOf (pBin pNe (pCall pRepr (pCons (pVar 9) pNil)) (pCall pRepr (pCons (pLst (pCons (pVar 8) (pCons (pVar 8) pNil))) pNil)))) (pTOf (pBin pNe (pCall pRepr (pCons (pVar 6) pNil)) (pVar 7))))
  (psSeq (psRet (pC (.bl false)))
  psPass)
  psPass)
  psPass))))
  psPass)))))))
  (psSeq (psRet (pC (.bl true)))
  psPass))
theorem sim_br_law : SimS br_law pbr_law :=
  (RP.ss_seq (RP.ss_for (sim_iRng2 (sim_cons (sim_int 1) (sim_cons (sim_int 6) sim_nil))) (sg_nm 2)
  (RP.ss_seq (RP.ss_set 3 (sim_fn1 sim__law_groups (sim_cons (sim_var 2) sim_nil)))
  (RP.ss_seq (RP.ss_if (sim_tOf (sim_bin sop_ne (sim_call sf_repr (sim_cons (sim_lst (sim_cons (sim_fn1 sim_groups (sim_cons (sim_var 2) sim_nil)) (sim_cons (sim_fnK (dd := []) rfl sim_groups sim_nil (sim_cons (sim_var 2) sim_nil)) sim_nil))) sim_nil)) (sim_call sf_repr (sim_cons (sim_bin sop_mul (sim_lst (sim_cons (sim_call sf_tuple (sim_cons (sim_var 3) sim_nil)) sim_nil)) (sim_int 2)) sim_nil))))
  (RP.ss_seq (RP.ss_ret (sim_bl false))
  ss_pass)
  ss_pass)
  (RP.ss_seq (RP.ss_set 4 (sim_fn1 sim__law_group (sim_cons (sim_var 1) (sim_cons (sim_var 2) sim_nil))))
  (RP.ss_seq (RP.ss_if (sim_tOf (sim_bin sop_ne (sim_call sf_repr (sim_cons (sim_lst (sim_cons (sim_fn1 sim_parts (sim_cons (sim_var 4) sim_nil)) (sim_cons (sim_fnK (dd := []) rfl sim_parts sim_nil (sim_cons (sim_var 4) sim_nil)) (sim_cons (sim_fn1 sim_parts (sim_cons (sim_tup sim_nil) sim_nil)) sim_nil)))) sim_nil)) (sim_call sf_repr (sim_cons (sim_bin sop_add (sim_bin sop_mul (sim_lst (sim_cons (sim_call sf_tuple (sim_cons (sim_fn1 sim__law_parts (sim_cons (sim_var 4) sim_nil)) sim_nil)) sim_nil)) (sim_int 2)) (sim_lst (sim_cons (sim_tup (sim_cons (sim_tup sim_nil) sim_nil)) sim_nil))) sim_nil))))
  (RP.ss_seq (RP.ss_ret (sim_bl false))
  ss_pass)
  ss_pass)
  (RP.ss_seq (RP.ss_set 5 (sim_lst (sim_cons (sim_var 4) (sim_cons (sim_bin sop_ix (sim_var 3) (sim_neg (sim_int 1))) (sim_cons (sim_bin sop_add (sim_bin sop_ix (sim_var 3) (sim_neg (sim_int 1))) (sim_tup (sim_cons (sim_var 2) sim_nil))) (sim_cons (sim_tup (sim_cons (sim_var 2) sim_nil)) (sim_cons (sim_tup (sim_cons (sim_neg (sim_int 1)) sim_nil)) (sim_cons (sim_tup sim_nil) (sim_cons (sim_tup (sim_cons (sim_int 0) (sim_cons (sim_int 0) sim_nil))) (sim_cons (sim_lst (sim_cons (sim_int 0) sim_nil)) (sim_cons sim_dict0 (sim_cons (sim_dict1 (.inl 0) (sim_int 0)) (sim_cons (sim_str "0") sim_nil)))))))))))))
  (RP.ss_seq (RP.ss_for (sim_iAny (sim_bin sop_add (sim_var 5) (sim_comp (sim_iRng1 (sim_cons (sim_int 8) sim_nil)) (sb_nm 10) sim_yes (sim_fn1 sim__law_bent_group (sim_cons (sim_var 1) (sim_cons (sim_var 4) sim_nil)))))) (sg_nm 6)
  (RP.ss_seq (RP.ss_par 7 8 (sim_cons (sim_call sf_repr (sim_cons (sim_var 6) sim_nil)) (sim_cons (sim_fn1 sim__law_is_group (sim_cons (sim_var 2) (sim_cons (sim_var 6) sim_nil))) sim_nil)))
  (RP.ss_seq (RP.ss_set 9 (sim_lst (sim_cons (sim_fn1 sim_is_group (sim_cons (sim_var 2) (sim_cons (sim_var 6) sim_nil))) (sim_cons (sim_fnK (dd := []) rfl sim_is_group sim_nil (sim_cons (sim_var 6) (sim_cons (sim_var 2) sim_nil))) sim_nil))))
  (RP.ss_seq (RP.ss_if (sim_tOr (sim_tOf (sim_bin sop_ne (sim_call sf_repr (sim_cons (sim_var 9) sim_nil)) (sim_call sf_repr (sim_cons (sim_lst (sim_cons (sim_var 8) (sim_cons (sim_var 8) sim_nil))) sim_nil)))) (sim_tOf (sim_bin sop_ne (sim_call sf_repr (sim_cons (sim_var 6) sim_nil)) (sim_var 7))))
  (RP.ss_seq (RP.ss_ret (sim_bl false))
  ss_pass)
  ss_pass)
  ss_pass))))
  ss_pass)))))))
  (RP.ss_seq (RP.ss_ret (sim_bl true))
  ss_pass))
end K01

namespace K01
open PySem PySem.Spec PyProof.Rows L2 RL RP
section
variable {t : Int} {P : PV → Int → Prop} {E : PX → Int → Prop}
theorem sl_le {n : Nat} (h : n ≤ 100000) : n ≤ sizeLine := by rw [sl_eq]; omega
theorem w_is_numberA {v : PV} (h : Dat v) : pf_is_number [v] t P E = P (.bl (isNum v)) t := by
  unfold pf_is_number pb_is_number
  simp only [↓u_isi0 h, ↓u_body, ↓u_seq, ↓u_if, ↓u_ret, ↓u_retN, ↓u_drop, ↓u_pass, ↓u_cont, ↓u_brk, ↓u_set, ↓u_par, ↓u_asg, ↓u_for, ↓u_nxP, ↓u_own, ↓u_append, ↓u_extend, ↓u_put, ↓u_ownE, ↓u_par2, ↓u_par3, ↓onlyB_f, ↓onlyB_t, slotO_f, slotO_t, ↓u_view, ↓u_viewT, ↓u_owns, ↓u_forAdd, ↓u_dict0, ↓u_pDict0, ↓u_pDict1, ↓u_setd, ↓u_look, ↓u_iVals, valsK_dcx, PSlot.obj.injEq, OV.dl.injEq, ↓u_frz, frz_own0, frz_val0, frz_no0, frz_obj0, frzS_lsts, frz_S, ↓u_gNm, ↓u_gTpT, ↓u_gTpL, ↓u_forN, ↓u_forC, ↓u_bin, ↓u_cons, ↓u_var0, ↓u_varS, ↓u_c, ↓u_tOf, ↓u_not, ↓u_and, ↓u_or, ↓u_andV, ↓u_orV, ↓u_notV, ↓u_ifE, ↓u_selC, ↓u_chain, ↓u_addI, ↓u_addT, ↓u_addL, ↓u_addG, ↓u_subI, ↓u_modI, ↓u_divI, ↓u_mulI, ↓u_mul2, ↓u_mul3, List.flatten_cons, List.flatten_nil, ↓u_ltI, ↓u_leI, ↓u_le2I, ↓w_le2G, ↓w_ltG, ↓u_gtI, ↓u_geI, ↓u_isN, ↓u_isNotN, ↓u_nil, ↓u_tup, ↓u_lst, ↓u_ixT, ↓u_ixL, ↓u_ixW0, ↓u_ixW1, ↓u_ixW2, ↓u_oNone, ↓u_oSome, ↓u_sl, ↓u_slT, ↓u_slL, ↓u_tru, ↓u_call, ↓u_fn1, ↓u_fnK, ↓u_abs, ↓u_min, ↓u_max, ↓u_boolI, ↓u_boolB, ↓u_rg1, ↓u_rg2, ↓u_lstRg, ↓u_tupRg, ↓u_iAny, ↓itemsL_one, ↓itemsK_tup, ↓itemsK_lst, ↓itemsK_gV, ↓itemsK_tV, ↓u_iRng1, ↓u_iRng2, ↓u_iEnum, ↓u_iZip, ↓u_comp, ↓u_take, ↓u_neS, ↓u_eqS, ↓pLen_tup, ↓pLen_lst, ↓pLen_tV, ↓pLen_gV, ↓pInt_int, ↓pInt_bl, ↓pTuple_tup, ↓pTuple_lst, ↓pList_tup, ↓pList_lst, sl_1, sl_2, sl_3, sl_4, sl_5, sl_6, sl_7, kind_non, kind_bl, kind_int, kind_str, kind_tup, kind_lst, kind_tV, kind_gV, truP_bl, truP_tup, truP_lst, truP_int, setsP, wipeP, atI_0, atI_1, atI_2, List.map_cons, List.map_nil, List.replicate_succ, List.replicate_zero, List.length_cons, List.length_nil, Nat.reduceSub, Nat.reduceAdd, Nat.zero_add, List.cons_append, List.nil_append, List.set_cons_succ, List.set_cons_zero, Option.some.injEq, PSlot.own.injEq, PSlot.obj.injEq, OV.lsts.injEq, exists_eq', exists_eq, List.getElem?_cons_succ, List.getElem?_cons_zero, exists_eq_left', exists_eq_left, true_and, and_true, pickL, if_true, if_false, Bool.false_eq_true, Bool.true_eq_false, Bool.not_true, Bool.not_false, decide_true, decide_false]
  rw [← isK_num]
  cases isK "int" v <;> rfl
theorem w_is_wholeA {v : PV} {a b : Int} (h : Dat v) : pf_is_whole [v, .int a, .int b] t P E = P (.bl (isI a b v)) t := by
  unfold pf_is_whole pb_is_whole
  simp only [↓w_is_numberA h, ↓u_body, ↓u_seq, ↓u_if, ↓u_ret, ↓u_retN, ↓u_drop, ↓u_pass, ↓u_cont, ↓u_brk, ↓u_set, ↓u_par, ↓u_asg, ↓u_for, ↓u_nxP, ↓u_own, ↓u_append, ↓u_extend, ↓u_put, ↓u_ownE, ↓u_par2, ↓u_par3, ↓onlyB_f, ↓onlyB_t, slotO_f, slotO_t, ↓u_view, ↓u_viewT, ↓u_owns, ↓u_forAdd, ↓u_dict0, ↓u_pDict0, ↓u_pDict1, ↓u_setd, ↓u_look, ↓u_iVals, valsK_dcx, PSlot.obj.injEq, OV.dl.injEq, ↓u_frz, frz_own0, frz_val0, frz_no0, frz_obj0, frzS_lsts, frz_S, ↓u_gNm, ↓u_gTpT, ↓u_gTpL, ↓u_forN, ↓u_forC, ↓u_bin, ↓u_cons, ↓u_var0, ↓u_varS, ↓u_c, ↓u_tOf, ↓u_not, ↓u_and, ↓u_or, ↓u_andV, ↓u_orV, ↓u_notV, ↓u_ifE, ↓u_selC, ↓u_chain, ↓u_addI, ↓u_addT, ↓u_addL, ↓u_addG, ↓u_subI, ↓u_modI, ↓u_divI, ↓u_mulI, ↓u_mul2, ↓u_mul3, List.flatten_cons, List.flatten_nil, ↓u_ltI, ↓u_leI, ↓u_le2I, ↓w_le2G, ↓w_ltG, ↓u_gtI, ↓u_geI, ↓u_isN, ↓u_isNotN, ↓u_nil, ↓u_tup, ↓u_lst, ↓u_ixT, ↓u_ixL, ↓u_ixW0, ↓u_ixW1, ↓u_ixW2, ↓u_oNone, ↓u_oSome, ↓u_sl, ↓u_slT, ↓u_slL, ↓u_tru, ↓u_call, ↓u_fn1, ↓u_fnK, ↓u_abs, ↓u_min, ↓u_max, ↓u_boolI, ↓u_boolB, ↓u_rg1, ↓u_rg2, ↓u_lstRg, ↓u_tupRg, ↓u_iAny, ↓itemsL_one, ↓itemsK_tup, ↓itemsK_lst, ↓itemsK_gV, ↓itemsK_tV, ↓u_iRng1, ↓u_iRng2, ↓u_iEnum, ↓u_iZip, ↓u_comp, ↓u_take, ↓u_neS, ↓u_eqS, ↓pLen_tup, ↓pLen_lst, ↓pLen_tV, ↓pLen_gV, ↓pInt_int, ↓pInt_bl, ↓pTuple_tup, ↓pTuple_lst, ↓pList_tup, ↓pList_lst, sl_1, sl_2, sl_3, sl_4, sl_5, sl_6, sl_7, kind_non, kind_bl, kind_int, kind_str, kind_tup, kind_lst, kind_tV, kind_gV, truP_bl, truP_tup, truP_lst, truP_int, setsP, wipeP, atI_0, atI_1, atI_2, List.map_cons, List.map_nil, List.replicate_succ, List.replicate_zero, List.length_cons, List.length_nil, Nat.reduceSub, Nat.reduceAdd, Nat.zero_add, List.cons_append, List.nil_append, List.set_cons_succ, List.set_cons_zero, Option.some.injEq, PSlot.own.injEq, PSlot.obj.injEq, OV.lsts.injEq, exists_eq', exists_eq, List.getElem?_cons_succ, List.getElem?_cons_zero, exists_eq_left', exists_eq_left, true_and, and_true, pickL, if_true, if_false, Bool.false_eq_true, Bool.true_eq_false, Bool.not_true, Bool.not_false, decide_true, decide_false]
  cases v <;> first | rfl | skip
  rename_i x
  show (if true = true then _ else _) = _
  rw [if_pos rfl]
  simp only [↓u_body, ↓u_seq, ↓u_if, ↓u_ret, ↓u_retN, ↓u_drop, ↓u_pass, ↓u_cont, ↓u_brk, ↓u_set, ↓u_par, ↓u_asg, ↓u_for, ↓u_nxP, ↓u_own, ↓u_append, ↓u_extend, ↓u_put, ↓u_ownE, ↓u_par2, ↓u_par3, ↓onlyB_f, ↓onlyB_t, slotO_f, slotO_t, ↓u_view, ↓u_viewT, ↓u_owns, ↓u_forAdd, ↓u_dict0, ↓u_pDict0, ↓u_pDict1, ↓u_setd, ↓u_look, ↓u_iVals, valsK_dcx, PSlot.obj.injEq, OV.dl.injEq, ↓u_frz, frz_own0, frz_val0, frz_no0, frz_obj0, frzS_lsts, frz_S, ↓u_gNm, ↓u_gTpT, ↓u_gTpL, ↓u_forN, ↓u_forC, ↓u_bin, ↓u_cons, ↓u_var0, ↓u_varS, ↓u_c, ↓u_tOf, ↓u_not, ↓u_and, ↓u_or, ↓u_andV, ↓u_orV, ↓u_notV, ↓u_ifE, ↓u_selC, ↓u_chain, ↓u_addI, ↓u_addT, ↓u_addL, ↓u_addG, ↓u_subI, ↓u_modI, ↓u_divI, ↓u_mulI, ↓u_mul2, ↓u_mul3, List.flatten_cons, List.flatten_nil, ↓u_ltI, ↓u_leI, ↓u_le2I, ↓w_le2G, ↓w_ltG, ↓u_gtI, ↓u_geI, ↓u_isN, ↓u_isNotN, ↓u_nil, ↓u_tup, ↓u_lst, ↓u_ixT, ↓u_ixL, ↓u_ixW0, ↓u_ixW1, ↓u_ixW2, ↓u_oNone, ↓u_oSome, ↓u_sl, ↓u_slT, ↓u_slL, ↓u_tru, ↓u_isi, ↓u_call, ↓u_fn1, ↓u_fnK, ↓u_abs, ↓u_min, ↓u_max, ↓u_boolI, ↓u_boolB, ↓u_rg1, ↓u_rg2, ↓u_lstRg, ↓u_tupRg, ↓u_iAny, ↓itemsL_one, ↓itemsK_tup, ↓itemsK_lst, ↓itemsK_gV, ↓itemsK_tV, ↓u_iRng1, ↓u_iRng2, ↓u_iEnum, ↓u_iZip, ↓u_comp, ↓u_take, ↓u_neS, ↓u_eqS, ↓pLen_tup, ↓pLen_lst, ↓pLen_tV, ↓pLen_gV, ↓pInt_int, ↓pInt_bl, ↓pTuple_tup, ↓pTuple_lst, ↓pList_tup, ↓pList_lst, sl_1, sl_2, sl_3, sl_4, sl_5, sl_6, sl_7, kind_non, kind_bl, kind_int, kind_str, kind_tup, kind_lst, kind_tV, kind_gV, truP_bl, truP_tup, truP_lst, truP_int, setsP, wipeP, atI_0, atI_1, atI_2, List.map_cons, List.map_nil, List.replicate_succ, List.replicate_zero, List.length_cons, List.length_nil, Nat.reduceSub, Nat.reduceAdd, Nat.zero_add, List.cons_append, List.nil_append, List.set_cons_succ, List.set_cons_zero, Option.some.injEq, PSlot.own.injEq, PSlot.obj.injEq, OV.lsts.injEq, exists_eq', exists_eq, List.getElem?_cons_succ, List.getElem?_cons_zero, exists_eq_left', exists_eq_left, true_and, and_true, pickL, if_true, if_false, Bool.false_eq_true, Bool.true_eq_false, Bool.not_true, Bool.not_false, decide_true, decide_false]
  unfold isI
  by_cases h : a ≤ x <;> simp [h]
theorem w_group_loopA {h : Int} {v : PV} {body : PSt} {R : Bool → Prop} {Q : PPs} (hb : body = psSeq (psIf (pNotM (pTOf (pFn1 3 pf_is_whole (pCons (pVar 3) (pCons (pVar 2) (pCons (pBin pSub (pVar 0) (pC (.int 1))) pNil))))))
  (psSeq (psRet (pC (.bl false)))
  psPass)
  psPass)
  (psSeq (psSet 2 (pBin pAdd (pVar 3) (pC (.int 1))))
  psPass)) (hQ : ∀ a b, Q.nx [.val (.int h), .val v, a, b] t = R true) (hR : Q.rt (.bl false) t = R false) : ∀ (l : List PV) (least : Int) (o : PSlot), (∀ x ∈ l, Dat x) → forW (pgNm 3) body l [.val (.int h), .val v, .val (.int least), o] t Q = R (grpL (h - 1) least l)
  | [], least, o, _ => hQ _ _
  | x :: l, least, o, hx => by
    have h1 := hx x List.mem_cons_self
    obtain ⟨nx, rt, ct, bk, ex⟩ := Q
    unfold forW
    have hb' := hb
    subst hb
    simp only [↓w_is_wholeA h1, ↓u_body, ↓u_seq, ↓u_if, ↓u_ret, ↓u_retN, ↓u_drop, ↓u_pass, ↓u_cont, ↓u_brk, ↓u_set, ↓u_par, ↓u_asg, ↓u_for, ↓u_nxP, ↓u_own, ↓u_append, ↓u_extend, ↓u_put, ↓u_ownE, ↓u_par2, ↓u_par3, ↓onlyB_f, ↓onlyB_t, slotO_f, slotO_t, ↓u_view, ↓u_viewT, ↓u_owns, ↓u_forAdd, ↓u_dict0, ↓u_pDict0, ↓u_pDict1, ↓u_setd, ↓u_look, ↓u_iVals, valsK_dcx, PSlot.obj.injEq, OV.dl.injEq, ↓u_frz, frz_own0, frz_val0, frz_no0, frz_obj0, frzS_lsts, frz_S, ↓u_gNm, ↓u_gTpT, ↓u_gTpL, ↓u_forN, ↓u_forC, ↓u_bin, ↓u_cons, ↓u_var0, ↓u_varS, ↓u_c, ↓u_tOf, ↓u_not, ↓u_and, ↓u_or, ↓u_andV, ↓u_orV, ↓u_notV, ↓u_ifE, ↓u_selC, ↓u_chain, ↓u_addI, ↓u_addT, ↓u_addL, ↓u_addG, ↓u_subI, ↓u_modI, ↓u_divI, ↓u_mulI, ↓u_mul2, ↓u_mul3, List.flatten_cons, List.flatten_nil, ↓u_ltI, ↓u_leI, ↓u_le2I, ↓w_le2G, ↓w_ltG, ↓u_gtI, ↓u_geI, ↓u_isN, ↓u_isNotN, ↓u_nil, ↓u_tup, ↓u_lst, ↓u_ixT, ↓u_ixL, ↓u_ixW0, ↓u_ixW1, ↓u_ixW2, ↓u_oNone, ↓u_oSome, ↓u_sl, ↓u_slT, ↓u_slL, ↓u_tru, ↓u_isi, ↓u_call, ↓u_fn1, ↓u_fnK, ↓u_abs, ↓u_min, ↓u_max, ↓u_boolI, ↓u_boolB, ↓u_rg1, ↓u_rg2, ↓u_lstRg, ↓u_tupRg, ↓u_iAny, ↓itemsL_one, ↓itemsK_tup, ↓itemsK_lst, ↓itemsK_gV, ↓itemsK_tV, ↓u_iRng1, ↓u_iRng2, ↓u_iEnum, ↓u_iZip, ↓u_comp, ↓u_take, ↓u_neS, ↓u_eqS, ↓pLen_tup, ↓pLen_lst, ↓pLen_tV, ↓pLen_gV, ↓pInt_int, ↓pInt_bl, ↓pTuple_tup, ↓pTuple_lst, ↓pList_tup, ↓pList_lst, sl_1, sl_2, sl_3, sl_4, sl_5, sl_6, sl_7, kind_non, kind_bl, kind_int, kind_str, kind_tup, kind_lst, kind_tV, kind_gV, truP_bl, truP_tup, truP_lst, truP_int, setsP, wipeP, atI_0, atI_1, atI_2, List.map_cons, List.map_nil, List.replicate_succ, List.replicate_zero, List.length_cons, List.length_nil, Nat.reduceSub, Nat.reduceAdd, Nat.zero_add, List.cons_append, List.nil_append, List.set_cons_succ, List.set_cons_zero, Option.some.injEq, PSlot.own.injEq, PSlot.obj.injEq, OV.lsts.injEq, exists_eq', exists_eq, List.getElem?_cons_succ, List.getElem?_cons_zero, exists_eq_left', exists_eq_left, true_and, and_true, pickL, if_true, if_false, Bool.false_eq_true, Bool.true_eq_false, Bool.not_true, Bool.not_false, decide_true, decide_false]
    unfold grpL
    cases e : isI least (h - 1) x with
    | false => 
      simp only [Bool.false_and, ↓u_body, ↓u_seq, ↓u_if, ↓u_ret, ↓u_retN, ↓u_drop, ↓u_pass, ↓u_cont, ↓u_brk, ↓u_set, ↓u_par, ↓u_asg, ↓u_for, ↓u_nxP, ↓u_own, ↓u_append, ↓u_extend, ↓u_put, ↓u_ownE, ↓u_par2, ↓u_par3, ↓onlyB_f, ↓onlyB_t, slotO_f, slotO_t, ↓u_view, ↓u_viewT, ↓u_owns, ↓u_forAdd, ↓u_dict0, ↓u_pDict0, ↓u_pDict1, ↓u_setd, ↓u_look, ↓u_iVals, valsK_dcx, PSlot.obj.injEq, OV.dl.injEq, ↓u_frz, frz_own0, frz_val0, frz_no0, frz_obj0, frzS_lsts, frz_S, ↓u_gNm, ↓u_gTpT, ↓u_gTpL, ↓u_forN, ↓u_forC, ↓u_bin, ↓u_cons, ↓u_var0, ↓u_varS, ↓u_c, ↓u_tOf, ↓u_not, ↓u_and, ↓u_or, ↓u_andV, ↓u_orV, ↓u_notV, ↓u_ifE, ↓u_selC, ↓u_chain, ↓u_addI, ↓u_addT, ↓u_addL, ↓u_addG, ↓u_subI, ↓u_modI, ↓u_divI, ↓u_mulI, ↓u_mul2, ↓u_mul3, List.flatten_cons, List.flatten_nil, ↓u_ltI, ↓u_leI, ↓u_le2I, ↓w_le2G, ↓w_ltG, ↓u_gtI, ↓u_geI, ↓u_isN, ↓u_isNotN, ↓u_nil, ↓u_tup, ↓u_lst, ↓u_ixT, ↓u_ixL, ↓u_ixW0, ↓u_ixW1, ↓u_ixW2, ↓u_oNone, ↓u_oSome, ↓u_sl, ↓u_slT, ↓u_slL, ↓u_tru, ↓u_isi, ↓u_call, ↓u_fn1, ↓u_fnK, ↓u_abs, ↓u_min, ↓u_max, ↓u_boolI, ↓u_boolB, ↓u_rg1, ↓u_rg2, ↓u_lstRg, ↓u_tupRg, ↓u_iAny, ↓itemsL_one, ↓itemsK_tup, ↓itemsK_lst, ↓itemsK_gV, ↓itemsK_tV, ↓u_iRng1, ↓u_iRng2, ↓u_iEnum, ↓u_iZip, ↓u_comp, ↓u_take, ↓u_neS, ↓u_eqS, ↓pLen_tup, ↓pLen_lst, ↓pLen_tV, ↓pLen_gV, ↓pInt_int, ↓pInt_bl, ↓pTuple_tup, ↓pTuple_lst, ↓pList_tup, ↓pList_lst, sl_1, sl_2, sl_3, sl_4, sl_5, sl_6, sl_7, kind_non, kind_bl, kind_int, kind_str, kind_tup, kind_lst, kind_tV, kind_gV, truP_bl, truP_tup, truP_lst, truP_int, setsP, wipeP, atI_0, atI_1, atI_2, List.map_cons, List.map_nil, List.replicate_succ, List.replicate_zero, List.length_cons, List.length_nil, Nat.reduceSub, Nat.reduceAdd, Nat.zero_add, List.cons_append, List.nil_append, List.set_cons_succ, List.set_cons_zero, Option.some.injEq, PSlot.own.injEq, PSlot.obj.injEq, OV.lsts.injEq, exists_eq', exists_eq, List.getElem?_cons_succ, List.getElem?_cons_zero, exists_eq_left', exists_eq_left, true_and, and_true, pickL, if_true, if_false, Bool.false_eq_true, Bool.true_eq_false, Bool.not_true, Bool.not_false, decide_true, decide_false]
      exact hR
    | true =>
      obtain ⟨y, rfl, h3, h4⟩ := isI_num e
      simp only [Bool.true_and, ↓u_body, ↓u_seq, ↓u_if, ↓u_ret, ↓u_retN, ↓u_drop, ↓u_pass, ↓u_cont, ↓u_brk, ↓u_set, ↓u_par, ↓u_asg, ↓u_for, ↓u_nxP, ↓u_own, ↓u_append, ↓u_extend, ↓u_put, ↓u_ownE, ↓u_par2, ↓u_par3, ↓onlyB_f, ↓onlyB_t, slotO_f, slotO_t, ↓u_view, ↓u_viewT, ↓u_owns, ↓u_forAdd, ↓u_dict0, ↓u_pDict0, ↓u_pDict1, ↓u_setd, ↓u_look, ↓u_iVals, valsK_dcx, PSlot.obj.injEq, OV.dl.injEq, ↓u_frz, frz_own0, frz_val0, frz_no0, frz_obj0, frzS_lsts, frz_S, ↓u_gNm, ↓u_gTpT, ↓u_gTpL, ↓u_forN, ↓u_forC, ↓u_bin, ↓u_cons, ↓u_var0, ↓u_varS, ↓u_c, ↓u_tOf, ↓u_not, ↓u_and, ↓u_or, ↓u_andV, ↓u_orV, ↓u_notV, ↓u_ifE, ↓u_selC, ↓u_chain, ↓u_addI, ↓u_addT, ↓u_addL, ↓u_addG, ↓u_subI, ↓u_modI, ↓u_divI, ↓u_mulI, ↓u_mul2, ↓u_mul3, List.flatten_cons, List.flatten_nil, ↓u_ltI, ↓u_leI, ↓u_le2I, ↓w_le2G, ↓w_ltG, ↓u_gtI, ↓u_geI, ↓u_isN, ↓u_isNotN, ↓u_nil, ↓u_tup, ↓u_lst, ↓u_ixT, ↓u_ixL, ↓u_ixW0, ↓u_ixW1, ↓u_ixW2, ↓u_oNone, ↓u_oSome, ↓u_sl, ↓u_slT, ↓u_slL, ↓u_tru, ↓u_isi, ↓u_call, ↓u_fn1, ↓u_fnK, ↓u_abs, ↓u_min, ↓u_max, ↓u_boolI, ↓u_boolB, ↓u_rg1, ↓u_rg2, ↓u_lstRg, ↓u_tupRg, ↓u_iAny, ↓itemsL_one, ↓itemsK_tup, ↓itemsK_lst, ↓itemsK_gV, ↓itemsK_tV, ↓u_iRng1, ↓u_iRng2, ↓u_iEnum, ↓u_iZip, ↓u_comp, ↓u_take, ↓u_neS, ↓u_eqS, ↓pLen_tup, ↓pLen_lst, ↓pLen_tV, ↓pLen_gV, ↓pInt_int, ↓pInt_bl, ↓pTuple_tup, ↓pTuple_lst, ↓pList_tup, ↓pList_lst, sl_1, sl_2, sl_3, sl_4, sl_5, sl_6, sl_7, kind_non, kind_bl, kind_int, kind_str, kind_tup, kind_lst, kind_tV, kind_gV, truP_bl, truP_tup, truP_lst, truP_int, setsP, wipeP, atI_0, atI_1, atI_2, List.map_cons, List.map_nil, List.replicate_succ, List.replicate_zero, List.length_cons, List.length_nil, Nat.reduceSub, Nat.reduceAdd, Nat.zero_add, List.cons_append, List.nil_append, List.set_cons_succ, List.set_cons_zero, Option.some.injEq, PSlot.own.injEq, PSlot.obj.injEq, OV.lsts.injEq, exists_eq', exists_eq, List.getElem?_cons_succ, List.getElem?_cons_zero, exists_eq_left', exists_eq_left, true_and, and_true, pickL, if_true, if_false, Bool.false_eq_true, Bool.true_eq_false, Bool.not_true, Bool.not_false, decide_true, decide_false]
      exact w_group_loopA hb' hQ hR l (y + 1) (.val (.int y)) fun z hz => hx z (List.mem_cons_of_mem _ hz)
theorem w_is_groupA {h : Int} {v : PV} (hd : Dat v) : pf_is_group [.int h, v] t P E = P (.bl (isG h v)) t := by
  unfold pf_is_group pb_is_group
  simp only [↓u_isi1 hd, ↓u_body, ↓u_seq, ↓u_if, ↓u_ret, ↓u_retN, ↓u_drop, ↓u_pass, ↓u_cont, ↓u_brk, ↓u_set, ↓u_par, ↓u_asg, ↓u_for, ↓u_nxP, ↓u_own, ↓u_append, ↓u_extend, ↓u_put, ↓u_ownE, ↓u_par2, ↓u_par3, ↓onlyB_f, ↓onlyB_t, slotO_f, slotO_t, ↓u_view, ↓u_viewT, ↓u_owns, ↓u_forAdd, ↓u_dict0, ↓u_pDict0, ↓u_pDict1, ↓u_setd, ↓u_look, ↓u_iVals, valsK_dcx, PSlot.obj.injEq, OV.dl.injEq, ↓u_frz, frz_own0, frz_val0, frz_no0, frz_obj0, frzS_lsts, frz_S, ↓u_gNm, ↓u_gTpT, ↓u_gTpL, ↓u_forN, ↓u_forC, ↓u_bin, ↓u_cons, ↓u_var0, ↓u_varS, ↓u_c, ↓u_tOf, ↓u_not, ↓u_and, ↓u_or, ↓u_andV, ↓u_orV, ↓u_notV, ↓u_ifE, ↓u_selC, ↓u_chain, ↓u_addI, ↓u_addT, ↓u_addL, ↓u_addG, ↓u_subI, ↓u_modI, ↓u_divI, ↓u_mulI, ↓u_mul2, ↓u_mul3, List.flatten_cons, List.flatten_nil, ↓u_ltI, ↓u_leI, ↓u_le2I, ↓w_le2G, ↓w_ltG, ↓u_gtI, ↓u_geI, ↓u_isN, ↓u_isNotN, ↓u_nil, ↓u_tup, ↓u_lst, ↓u_ixT, ↓u_ixL, ↓u_ixW0, ↓u_ixW1, ↓u_ixW2, ↓u_oNone, ↓u_oSome, ↓u_sl, ↓u_slT, ↓u_slL, ↓u_tru, ↓u_call, ↓u_fn1, ↓u_fnK, ↓u_abs, ↓u_min, ↓u_max, ↓u_boolI, ↓u_boolB, ↓u_rg1, ↓u_rg2, ↓u_lstRg, ↓u_tupRg, ↓u_iAny, ↓itemsL_one, ↓itemsK_tup, ↓itemsK_lst, ↓itemsK_gV, ↓itemsK_tV, ↓u_iRng1, ↓u_iRng2, ↓u_iEnum, ↓u_iZip, ↓u_comp, ↓u_take, ↓u_neS, ↓u_eqS, ↓pLen_tup, ↓pLen_lst, ↓pLen_tV, ↓pLen_gV, ↓pInt_int, ↓pInt_bl, ↓pTuple_tup, ↓pTuple_lst, ↓pList_tup, ↓pList_lst, sl_1, sl_2, sl_3, sl_4, sl_5, sl_6, sl_7, kind_non, kind_bl, kind_int, kind_str, kind_tup, kind_lst, kind_tV, kind_gV, truP_bl, truP_tup, truP_lst, truP_int, setsP, wipeP, atI_0, atI_1, atI_2, List.map_cons, List.map_nil, List.replicate_succ, List.replicate_zero, List.length_cons, List.length_nil, Nat.reduceSub, Nat.reduceAdd, Nat.zero_add, List.cons_append, List.nil_append, List.set_cons_succ, List.set_cons_zero, Option.some.injEq, PSlot.own.injEq, PSlot.obj.injEq, OV.lsts.injEq, exists_eq', exists_eq, List.getElem?_cons_succ, List.getElem?_cons_zero, exists_eq_left', exists_eq_left, true_and, and_true, pickL, if_true, if_false, Bool.false_eq_true, Bool.true_eq_false, Bool.not_true, Bool.not_false, decide_true, decide_false]
  cases v <;> first | rfl | skip
  rename_i vs
  simp only [↓isK_tt, ↓u_body, ↓u_seq, ↓u_if, ↓u_ret, ↓u_retN, ↓u_drop, ↓u_pass, ↓u_cont, ↓u_brk, ↓u_set, ↓u_par, ↓u_asg, ↓u_for, ↓u_nxP, ↓u_own, ↓u_append, ↓u_extend, ↓u_put, ↓u_ownE, ↓u_par2, ↓u_par3, ↓onlyB_f, ↓onlyB_t, slotO_f, slotO_t, ↓u_view, ↓u_viewT, ↓u_owns, ↓u_forAdd, ↓u_dict0, ↓u_pDict0, ↓u_pDict1, ↓u_setd, ↓u_look, ↓u_iVals, valsK_dcx, PSlot.obj.injEq, OV.dl.injEq, ↓u_frz, frz_own0, frz_val0, frz_no0, frz_obj0, frzS_lsts, frz_S, ↓u_gNm, ↓u_gTpT, ↓u_gTpL, ↓u_forN, ↓u_forC, ↓u_bin, ↓u_cons, ↓u_var0, ↓u_varS, ↓u_c, ↓u_tOf, ↓u_not, ↓u_and, ↓u_or, ↓u_andV, ↓u_orV, ↓u_notV, ↓u_ifE, ↓u_selC, ↓u_chain, ↓u_addI, ↓u_addT, ↓u_addL, ↓u_addG, ↓u_subI, ↓u_modI, ↓u_divI, ↓u_mulI, ↓u_mul2, ↓u_mul3, List.flatten_cons, List.flatten_nil, ↓u_ltI, ↓u_leI, ↓u_le2I, ↓w_le2G, ↓w_ltG, ↓u_gtI, ↓u_geI, ↓u_isN, ↓u_isNotN, ↓u_nil, ↓u_tup, ↓u_lst, ↓u_ixT, ↓u_ixL, ↓u_ixW0, ↓u_ixW1, ↓u_ixW2, ↓u_oNone, ↓u_oSome, ↓u_sl, ↓u_slT, ↓u_slL, ↓u_tru, ↓u_call, ↓u_fn1, ↓u_fnK, ↓u_abs, ↓u_min, ↓u_max, ↓u_boolI, ↓u_boolB, ↓u_rg1, ↓u_rg2, ↓u_lstRg, ↓u_tupRg, ↓u_iAny, ↓itemsL_one, ↓itemsK_tup, ↓itemsK_lst, ↓itemsK_gV, ↓itemsK_tV, ↓u_iRng1, ↓u_iRng2, ↓u_iEnum, ↓u_iZip, ↓u_comp, ↓u_take, ↓u_neS, ↓u_eqS, ↓pLen_tup, ↓pLen_lst, ↓pLen_tV, ↓pLen_gV, ↓pInt_int, ↓pInt_bl, ↓pTuple_tup, ↓pTuple_lst, ↓pList_tup, ↓pList_lst, sl_1, sl_2, sl_3, sl_4, sl_5, sl_6, sl_7, kind_non, kind_bl, kind_int, kind_str, kind_tup, kind_lst, kind_tV, kind_gV, truP_bl, truP_tup, truP_lst, truP_int, setsP, wipeP, atI_0, atI_1, atI_2, List.map_cons, List.map_nil, List.replicate_succ, List.replicate_zero, List.length_cons, List.length_nil, Nat.reduceSub, Nat.reduceAdd, Nat.zero_add, List.cons_append, List.nil_append, List.set_cons_succ, List.set_cons_zero, Option.some.injEq, PSlot.own.injEq, PSlot.obj.injEq, OV.lsts.injEq, exists_eq', exists_eq, List.getElem?_cons_succ, List.getElem?_cons_zero, exists_eq_left', exists_eq_left, true_and, and_true, pickL, if_true, if_false, Bool.false_eq_true, Bool.true_eq_false, Bool.not_true, Bool.not_false, decide_true, decide_false]
  exact w_group_loopA (R := fun b => P (.bl b) t) rfl (fun _ _ => rfl) rfl vs 0 .no hd.tup
theorem w_law_is_wholeA {v : PV} {a b : Int} (h : Dat v) : pf__law_is_whole [v, .int a, .int b] t P E = P (.bl (isI a b v)) t := by
  unfold pf__law_is_whole pb__law_is_whole
  simp only [↓u_isi0 h, ↓u_body, ↓u_seq, ↓u_if, ↓u_ret, ↓u_retN, ↓u_drop, ↓u_pass, ↓u_cont, ↓u_brk, ↓u_set, ↓u_par, ↓u_asg, ↓u_for, ↓u_nxP, ↓u_own, ↓u_append, ↓u_extend, ↓u_put, ↓u_ownE, ↓u_par2, ↓u_par3, ↓onlyB_f, ↓onlyB_t, slotO_f, slotO_t, ↓u_view, ↓u_viewT, ↓u_owns, ↓u_forAdd, ↓u_dict0, ↓u_pDict0, ↓u_pDict1, ↓u_setd, ↓u_look, ↓u_iVals, valsK_dcx, PSlot.obj.injEq, OV.dl.injEq, ↓u_frz, frz_own0, frz_val0, frz_no0, frz_obj0, frzS_lsts, frz_S, ↓u_gNm, ↓u_gTpT, ↓u_gTpL, ↓u_forN, ↓u_forC, ↓u_bin, ↓u_cons, ↓u_var0, ↓u_varS, ↓u_c, ↓u_tOf, ↓u_not, ↓u_and, ↓u_or, ↓u_andV, ↓u_orV, ↓u_notV, ↓u_ifE, ↓u_selC, ↓u_chain, ↓u_addI, ↓u_addT, ↓u_addL, ↓u_addG, ↓u_subI, ↓u_modI, ↓u_divI, ↓u_mulI, ↓u_mul2, ↓u_mul3, List.flatten_cons, List.flatten_nil, ↓u_ltI, ↓u_leI, ↓u_le2I, ↓w_le2G, ↓w_ltG, ↓u_gtI, ↓u_geI, ↓u_isN, ↓u_isNotN, ↓u_nil, ↓u_tup, ↓u_lst, ↓u_ixT, ↓u_ixL, ↓u_ixW0, ↓u_ixW1, ↓u_ixW2, ↓u_oNone, ↓u_oSome, ↓u_sl, ↓u_slT, ↓u_slL, ↓u_tru, ↓u_call, ↓u_fn1, ↓u_fnK, ↓u_abs, ↓u_min, ↓u_max, ↓u_boolI, ↓u_boolB, ↓u_rg1, ↓u_rg2, ↓u_lstRg, ↓u_tupRg, ↓u_iAny, ↓itemsL_one, ↓itemsK_tup, ↓itemsK_lst, ↓itemsK_gV, ↓itemsK_tV, ↓u_iRng1, ↓u_iRng2, ↓u_iEnum, ↓u_iZip, ↓u_comp, ↓u_take, ↓u_neS, ↓u_eqS, ↓pLen_tup, ↓pLen_lst, ↓pLen_tV, ↓pLen_gV, ↓pInt_int, ↓pInt_bl, ↓pTuple_tup, ↓pTuple_lst, ↓pList_tup, ↓pList_lst, sl_1, sl_2, sl_3, sl_4, sl_5, sl_6, sl_7, kind_non, kind_bl, kind_int, kind_str, kind_tup, kind_lst, kind_tV, kind_gV, truP_bl, truP_tup, truP_lst, truP_int, setsP, wipeP, atI_0, atI_1, atI_2, List.map_cons, List.map_nil, List.replicate_succ, List.replicate_zero, List.length_cons, List.length_nil, Nat.reduceSub, Nat.reduceAdd, Nat.zero_add, List.cons_append, List.nil_append, List.set_cons_succ, List.set_cons_zero, Option.some.injEq, PSlot.own.injEq, PSlot.obj.injEq, OV.lsts.injEq, exists_eq', exists_eq, List.getElem?_cons_succ, List.getElem?_cons_zero, exists_eq_left', exists_eq_left, true_and, and_true, pickL, if_true, if_false, Bool.false_eq_true, Bool.true_eq_false, Bool.not_true, Bool.not_false, decide_true, decide_false]
  have e := isK_num (v := v)
  cases v <;> first | rfl | skip
  rename_i x
  simp only [↓isK_ii, ↓isK_ib, ↓u_body, ↓u_seq, ↓u_if, ↓u_ret, ↓u_retN, ↓u_drop, ↓u_pass, ↓u_cont, ↓u_brk, ↓u_set, ↓u_par, ↓u_asg, ↓u_for, ↓u_nxP, ↓u_own, ↓u_append, ↓u_extend, ↓u_put, ↓u_ownE, ↓u_par2, ↓u_par3, ↓onlyB_f, ↓onlyB_t, slotO_f, slotO_t, ↓u_view, ↓u_viewT, ↓u_owns, ↓u_forAdd, ↓u_dict0, ↓u_pDict0, ↓u_pDict1, ↓u_setd, ↓u_look, ↓u_iVals, valsK_dcx, PSlot.obj.injEq, OV.dl.injEq, ↓u_frz, frz_own0, frz_val0, frz_no0, frz_obj0, frzS_lsts, frz_S, ↓u_gNm, ↓u_gTpT, ↓u_gTpL, ↓u_forN, ↓u_forC, ↓u_bin, ↓u_cons, ↓u_var0, ↓u_varS, ↓u_c, ↓u_tOf, ↓u_not, ↓u_and, ↓u_or, ↓u_andV, ↓u_orV, ↓u_notV, ↓u_ifE, ↓u_selC, ↓u_chain, ↓u_addI, ↓u_addT, ↓u_addL, ↓u_addG, ↓u_subI, ↓u_modI, ↓u_divI, ↓u_mulI, ↓u_mul2, ↓u_mul3, List.flatten_cons, List.flatten_nil, ↓u_ltI, ↓u_leI, ↓u_le2I, ↓w_le2G, ↓w_ltG, ↓u_gtI, ↓u_geI, ↓u_isN, ↓u_isNotN, ↓u_nil, ↓u_tup, ↓u_lst, ↓u_ixT, ↓u_ixL, ↓u_ixW0, ↓u_ixW1, ↓u_ixW2, ↓u_oNone, ↓u_oSome, ↓u_sl, ↓u_slT, ↓u_slL, ↓u_tru, ↓u_call, ↓u_fn1, ↓u_fnK, ↓u_abs, ↓u_min, ↓u_max, ↓u_boolI, ↓u_boolB, ↓u_rg1, ↓u_rg2, ↓u_lstRg, ↓u_tupRg, ↓u_iAny, ↓itemsL_one, ↓itemsK_tup, ↓itemsK_lst, ↓itemsK_gV, ↓itemsK_tV, ↓u_iRng1, ↓u_iRng2, ↓u_iEnum, ↓u_iZip, ↓u_comp, ↓u_take, ↓u_neS, ↓u_eqS, ↓pLen_tup, ↓pLen_lst, ↓pLen_tV, ↓pLen_gV, ↓pInt_int, ↓pInt_bl, ↓pTuple_tup, ↓pTuple_lst, ↓pList_tup, ↓pList_lst, sl_1, sl_2, sl_3, sl_4, sl_5, sl_6, sl_7, kind_non, kind_bl, kind_int, kind_str, kind_tup, kind_lst, kind_tV, kind_gV, truP_bl, truP_tup, truP_lst, truP_int, setsP, wipeP, atI_0, atI_1, atI_2, List.map_cons, List.map_nil, List.replicate_succ, List.replicate_zero, List.length_cons, List.length_nil, Nat.reduceSub, Nat.reduceAdd, Nat.zero_add, List.cons_append, List.nil_append, List.set_cons_succ, List.set_cons_zero, Option.some.injEq, PSlot.own.injEq, PSlot.obj.injEq, OV.lsts.injEq, exists_eq', exists_eq, List.getElem?_cons_succ, List.getElem?_cons_zero, exists_eq_left', exists_eq_left, true_and, and_true, pickL, if_true, if_false, Bool.false_eq_true, Bool.true_eq_false, Bool.not_true, Bool.not_false, decide_true, decide_false]
  unfold isI
  by_cases h : a ≤ x <;> simp [h]
theorem ones_niceN (n : Nat) (hl : n ≤ 1000) : NiceL 0 11000 (List.replicate n (PV.int 1)) := by
  refine (niceL_all (k := 0) (w := 10) fun v hv => ?_).weak (by rw [List.length_replicate]; omega)
  rw [(List.mem_replicate.mp hv).2]
  exact nice_int (by decide)
theorem niceN_map (l : List Nat) (hl : l.length ≤ 1000) (h : ∀ i ∈ l, i < 1000) : NiceL 0 11000 (l.map fun i : Nat => PV.int (1 + i)) := by
  refine (niceL_all (k := 0) (w := 10) fun v hv => ?_).weak (by rw [List.length_map]; omega)
  obtain ⟨i, hi, rfl⟩ := List.mem_map.mp hv
  have := h i hi
  exact nice_int (by omega)
theorem repl_emp {α : Type} (f : α → Bool) (vs : List α) : (List.replicate (vs.filter f).length (PV.int 1)).isEmpty = !vs.any f := by
  rw [← filter_emp]
  cases vs.filter f <;> rfl
theorem w_law_is_groupA {h : Int} {v : PV} (hd : Dat v) (hl : ∀ vs, v = .tup vs → vs.length ≤ 1000) : pf__law_is_group [.int h, v] t P E = P (.bl (isG h v)) t := by
  unfold pf__law_is_group pb__law_is_group
  simp only [↓u_isi1 hd, ↓u_body, ↓u_seq, ↓u_if, ↓u_ret, ↓u_retN, ↓u_drop, ↓u_pass, ↓u_cont, ↓u_brk, ↓u_set, ↓u_par, ↓u_asg, ↓u_for, ↓u_nxP, ↓u_own, ↓u_append, ↓u_extend, ↓u_put, ↓u_ownE, ↓u_par2, ↓u_par3, ↓onlyB_f, ↓onlyB_t, slotO_f, slotO_t, ↓u_view, ↓u_viewT, ↓u_owns, ↓u_forAdd, ↓u_dict0, ↓u_pDict0, ↓u_pDict1, ↓u_setd, ↓u_look, ↓u_iVals, valsK_dcx, PSlot.obj.injEq, OV.dl.injEq, ↓u_frz, frz_own0, frz_val0, frz_no0, frz_obj0, frzS_lsts, frz_S, ↓u_gNm, ↓u_gTpT, ↓u_gTpL, ↓u_forN, ↓u_forC, ↓u_bin, ↓u_cons, ↓u_var0, ↓u_varS, ↓u_c, ↓u_tOf, ↓u_not, ↓u_and, ↓u_or, ↓u_andV, ↓u_orV, ↓u_notV, ↓u_ifE, ↓u_selC, ↓u_chain, ↓u_addI, ↓u_addT, ↓u_addL, ↓u_addG, ↓u_subI, ↓u_modI, ↓u_divI, ↓u_mulI, ↓u_mul2, ↓u_mul3, List.flatten_cons, List.flatten_nil, ↓u_ltI, ↓u_leI, ↓u_le2I, ↓w_le2G, ↓w_ltG, ↓u_gtI, ↓u_geI, ↓u_isN, ↓u_isNotN, ↓u_nil, ↓u_tup, ↓u_lst, ↓u_ixT, ↓u_ixL, ↓u_ixW0, ↓u_ixW1, ↓u_ixW2, ↓u_oNone, ↓u_oSome, ↓u_sl, ↓u_slT, ↓u_slL, ↓u_tru, ↓u_call, ↓u_fn1, ↓u_fnK, ↓u_abs, ↓u_min, ↓u_max, ↓u_boolI, ↓u_boolB, ↓u_rg1, ↓u_rg2, ↓u_lstRg, ↓u_tupRg, ↓u_iAny, ↓itemsL_one, ↓itemsK_tup, ↓itemsK_lst, ↓itemsK_gV, ↓itemsK_tV, ↓u_iRng1, ↓u_iRng2, ↓u_iEnum, ↓u_iZip, ↓u_comp, ↓u_take, ↓u_neS, ↓u_eqS, ↓pLen_tup, ↓pLen_lst, ↓pLen_tV, ↓pLen_gV, ↓pInt_int, ↓pInt_bl, ↓pTuple_tup, ↓pTuple_lst, ↓pList_tup, ↓pList_lst, sl_1, sl_2, sl_3, sl_4, sl_5, sl_6, sl_7, kind_non, kind_bl, kind_int, kind_str, kind_tup, kind_lst, kind_tV, kind_gV, truP_bl, truP_tup, truP_lst, truP_int, setsP, wipeP, atI_0, atI_1, atI_2, List.map_cons, List.map_nil, List.replicate_succ, List.replicate_zero, List.length_cons, List.length_nil, Nat.reduceSub, Nat.reduceAdd, Nat.zero_add, List.cons_append, List.nil_append, List.set_cons_succ, List.set_cons_zero, Option.some.injEq, PSlot.own.injEq, PSlot.obj.injEq, OV.lsts.injEq, exists_eq', exists_eq, List.getElem?_cons_succ, List.getElem?_cons_zero, exists_eq_left', exists_eq_left, true_and, and_true, pickL, if_true, if_false, Bool.false_eq_true, Bool.true_eq_false, Bool.not_true, Bool.not_false, decide_true, decide_false]
  cases v <;> first | rfl | skip
  rename_i vs
  have hvs := hl vs rfl
  have cm := fun P E => comp_eq (t := t) (P := P) (E := E) (i := 2) (c := pNotM (pTOf (pFn1 3 pf__law_is_whole (pCons (pVar 2) (pCons (pC (.int 0)) (pCons (pBin pSub (pVar 0) (pC (.int 1))) pNil)))))) (e := pC (.int 1)) (π := [.val (.int h), .val (.tup vs), .no, .no]) id (fun x => !isI 0 (h - 1) x) (fun _ => PV.int 1) vs [] (by rw [sl_eq]; simp; omega) (fun x hx t K => by
    dsimp only [id]
    simp only [↓w_law_is_wholeA (hd.tup x hx), ↓u_body, ↓u_seq, ↓u_if, ↓u_ret, ↓u_retN, ↓u_drop, ↓u_pass, ↓u_cont, ↓u_brk, ↓u_set, ↓u_par, ↓u_asg, ↓u_for, ↓u_nxP, ↓u_own, ↓u_append, ↓u_extend, ↓u_put, ↓u_ownE, ↓u_par2, ↓u_par3, ↓onlyB_f, ↓onlyB_t, slotO_f, slotO_t, ↓u_view, ↓u_viewT, ↓u_owns, ↓u_forAdd, ↓u_dict0, ↓u_pDict0, ↓u_pDict1, ↓u_setd, ↓u_look, ↓u_iVals, valsK_dcx, PSlot.obj.injEq, OV.dl.injEq, ↓u_frz, frz_own0, frz_val0, frz_no0, frz_obj0, frzS_lsts, frz_S, ↓u_gNm, ↓u_gTpT, ↓u_gTpL, ↓u_forN, ↓u_forC, ↓u_bin, ↓u_cons, ↓u_var0, ↓u_varS, ↓u_c, ↓u_tOf, ↓u_not, ↓u_and, ↓u_or, ↓u_andV, ↓u_orV, ↓u_notV, ↓u_ifE, ↓u_selC, ↓u_chain, ↓u_addI, ↓u_addT, ↓u_addL, ↓u_addG, ↓u_subI, ↓u_modI, ↓u_divI, ↓u_mulI, ↓u_mul2, ↓u_mul3, List.flatten_cons, List.flatten_nil, ↓u_ltI, ↓u_leI, ↓u_le2I, ↓w_le2G, ↓w_ltG, ↓u_gtI, ↓u_geI, ↓u_isN, ↓u_isNotN, ↓u_nil, ↓u_tup, ↓u_lst, ↓u_ixT, ↓u_ixL, ↓u_ixW0, ↓u_ixW1, ↓u_ixW2, ↓u_oNone, ↓u_oSome, ↓u_sl, ↓u_slT, ↓u_slL, ↓u_tru, ↓u_isi, ↓u_call, ↓u_fn1, ↓u_fnK, ↓u_abs, ↓u_min, ↓u_max, ↓u_boolI, ↓u_boolB, ↓u_rg1, ↓u_rg2, ↓u_lstRg, ↓u_tupRg, ↓u_iAny, ↓itemsL_one, ↓itemsK_tup, ↓itemsK_lst, ↓itemsK_gV, ↓itemsK_tV, ↓u_iRng1, ↓u_iRng2, ↓u_iEnum, ↓u_iZip, ↓u_comp, ↓u_take, ↓u_neS, ↓u_eqS, ↓pLen_tup, ↓pLen_lst, ↓pLen_tV, ↓pLen_gV, ↓pInt_int, ↓pInt_bl, ↓pTuple_tup, ↓pTuple_lst, ↓pList_tup, ↓pList_lst, sl_1, sl_2, sl_3, sl_4, sl_5, sl_6, sl_7, kind_non, kind_bl, kind_int, kind_str, kind_tup, kind_lst, kind_tV, kind_gV, truP_bl, truP_tup, truP_lst, truP_int, setsP, wipeP, atI_0, atI_1, atI_2, List.map_cons, List.map_nil, List.replicate_succ, List.replicate_zero, List.length_cons, List.length_nil, Nat.reduceSub, Nat.reduceAdd, Nat.zero_add, List.cons_append, List.nil_append, List.set_cons_succ, List.set_cons_zero, Option.some.injEq, PSlot.own.injEq, PSlot.obj.injEq, OV.lsts.injEq, exists_eq', exists_eq, List.getElem?_cons_succ, List.getElem?_cons_zero, exists_eq_left', exists_eq_left, true_and, and_true, pickL, if_true, if_false, Bool.false_eq_true, Bool.true_eq_false, Bool.not_true, Bool.not_false, decide_true, decide_false]) (fun x hx _ t K => by simp only [↓u_body, ↓u_seq, ↓u_if, ↓u_ret, ↓u_retN, ↓u_drop, ↓u_pass, ↓u_cont, ↓u_brk, ↓u_set, ↓u_par, ↓u_asg, ↓u_for, ↓u_nxP, ↓u_own, ↓u_append, ↓u_extend, ↓u_put, ↓u_ownE, ↓u_par2, ↓u_par3, ↓onlyB_f, ↓onlyB_t, slotO_f, slotO_t, ↓u_view, ↓u_viewT, ↓u_owns, ↓u_forAdd, ↓u_dict0, ↓u_pDict0, ↓u_pDict1, ↓u_setd, ↓u_look, ↓u_iVals, valsK_dcx, PSlot.obj.injEq, OV.dl.injEq, ↓u_frz, frz_own0, frz_val0, frz_no0, frz_obj0, frzS_lsts, frz_S, ↓u_gNm, ↓u_gTpT, ↓u_gTpL, ↓u_forN, ↓u_forC, ↓u_bin, ↓u_cons, ↓u_var0, ↓u_varS, ↓u_c, ↓u_tOf, ↓u_not, ↓u_and, ↓u_or, ↓u_andV, ↓u_orV, ↓u_notV, ↓u_ifE, ↓u_selC, ↓u_chain, ↓u_addI, ↓u_addT, ↓u_addL, ↓u_addG, ↓u_subI, ↓u_modI, ↓u_divI, ↓u_mulI, ↓u_mul2, ↓u_mul3, List.flatten_cons, List.flatten_nil, ↓u_ltI, ↓u_leI, ↓u_le2I, ↓w_le2G, ↓w_ltG, ↓u_gtI, ↓u_geI, ↓u_isN, ↓u_isNotN, ↓u_nil, ↓u_tup, ↓u_lst, ↓u_ixT, ↓u_ixL, ↓u_ixW0, ↓u_ixW1, ↓u_ixW2, ↓u_oNone, ↓u_oSome, ↓u_sl, ↓u_slT, ↓u_slL, ↓u_tru, ↓u_isi, ↓u_call, ↓u_fn1, ↓u_fnK, ↓u_abs, ↓u_min, ↓u_max, ↓u_boolI, ↓u_boolB, ↓u_rg1, ↓u_rg2, ↓u_lstRg, ↓u_tupRg, ↓u_iAny, ↓itemsL_one, ↓itemsK_tup, ↓itemsK_lst, ↓itemsK_gV, ↓itemsK_tV, ↓u_iRng1, ↓u_iRng2, ↓u_iEnum, ↓u_iZip, ↓u_comp, ↓u_take, ↓u_neS, ↓u_eqS, ↓pLen_tup, ↓pLen_lst, ↓pLen_tV, ↓pLen_gV, ↓pInt_int, ↓pInt_bl, ↓pTuple_tup, ↓pTuple_lst, ↓pList_tup, ↓pList_lst, sl_1, sl_2, sl_3, sl_4, sl_5, sl_6, sl_7, kind_non, kind_bl, kind_int, kind_str, kind_tup, kind_lst, kind_tV, kind_gV, truP_bl, truP_tup, truP_lst, truP_int, setsP, wipeP, atI_0, atI_1, atI_2, List.map_cons, List.map_nil, List.replicate_succ, List.replicate_zero, List.length_cons, List.length_nil, Nat.reduceSub, Nat.reduceAdd, Nat.zero_add, List.cons_append, List.nil_append, List.set_cons_succ, List.set_cons_zero, Option.some.injEq, PSlot.own.injEq, PSlot.obj.injEq, OV.lsts.injEq, exists_eq', exists_eq, List.getElem?_cons_succ, List.getElem?_cons_zero, exists_eq_left', exists_eq_left, true_and, and_true, pickL, if_true, if_false, Bool.false_eq_true, Bool.true_eq_false, Bool.not_true, Bool.not_false, decide_true, decide_false])
  simp only [List.map_id, List.nil_append, List.map_const'] at cm
  simp only [↓isK_tt, ↓cm, ↓w_neNil (ones_niceN _ (Nat.le_trans (List.length_filter_le _ _) hvs)) (show 0 ≤ 12 by omega), ↓u_body, ↓u_seq, ↓u_if, ↓u_ret, ↓u_retN, ↓u_drop, ↓u_pass, ↓u_cont, ↓u_brk, ↓u_set, ↓u_par, ↓u_asg, ↓u_for, ↓u_nxP, ↓u_own, ↓u_append, ↓u_extend, ↓u_put, ↓u_ownE, ↓u_par2, ↓u_par3, ↓onlyB_f, ↓onlyB_t, slotO_f, slotO_t, ↓u_view, ↓u_viewT, ↓u_owns, ↓u_forAdd, ↓u_dict0, ↓u_pDict0, ↓u_pDict1, ↓u_setd, ↓u_look, ↓u_iVals, valsK_dcx, PSlot.obj.injEq, OV.dl.injEq, ↓u_frz, frz_own0, frz_val0, frz_no0, frz_obj0, frzS_lsts, frz_S, ↓u_gNm, ↓u_gTpT, ↓u_gTpL, ↓u_forN, ↓u_forC, ↓u_bin, ↓u_cons, ↓u_var0, ↓u_varS, ↓u_c, ↓u_tOf, ↓u_not, ↓u_and, ↓u_or, ↓u_andV, ↓u_orV, ↓u_notV, ↓u_ifE, ↓u_selC, ↓u_chain, ↓u_addI, ↓u_addT, ↓u_addL, ↓u_addG, ↓u_subI, ↓u_modI, ↓u_divI, ↓u_mulI, ↓u_mul2, ↓u_mul3, List.flatten_cons, List.flatten_nil, ↓u_ltI, ↓u_leI, ↓u_le2I, ↓w_le2G, ↓w_ltG, ↓u_gtI, ↓u_geI, ↓u_isN, ↓u_isNotN, ↓u_nil, ↓u_tup, ↓u_lst, ↓u_ixT, ↓u_ixL, ↓u_ixW0, ↓u_ixW1, ↓u_ixW2, ↓u_oNone, ↓u_oSome, ↓u_sl, ↓u_slT, ↓u_slL, ↓u_tru, ↓u_call, ↓u_fn1, ↓u_fnK, ↓u_abs, ↓u_min, ↓u_max, ↓u_boolI, ↓u_boolB, ↓u_rg1, ↓u_rg2, ↓u_lstRg, ↓u_tupRg, ↓u_iAny, ↓itemsL_one, ↓itemsK_tup, ↓itemsK_lst, ↓itemsK_gV, ↓itemsK_tV, ↓u_iRng1, ↓u_iRng2, ↓u_iEnum, ↓u_iZip, ↓u_comp, ↓u_take, ↓u_neS, ↓u_eqS, ↓pLen_tup, ↓pLen_lst, ↓pLen_tV, ↓pLen_gV, ↓pInt_int, ↓pInt_bl, ↓pTuple_tup, ↓pTuple_lst, ↓pList_tup, ↓pList_lst, sl_1, sl_2, sl_3, sl_4, sl_5, sl_6, sl_7, kind_non, kind_bl, kind_int, kind_str, kind_tup, kind_lst, kind_tV, kind_gV, truP_bl, truP_tup, truP_lst, truP_int, setsP, wipeP, atI_0, atI_1, atI_2, List.map_cons, List.map_nil, List.replicate_succ, List.replicate_zero, List.length_cons, List.length_nil, Nat.reduceSub, Nat.reduceAdd, Nat.zero_add, List.cons_append, List.nil_append, List.set_cons_succ, List.set_cons_zero, Option.some.injEq, PSlot.own.injEq, PSlot.obj.injEq, OV.lsts.injEq, exists_eq', exists_eq, List.getElem?_cons_succ, List.getElem?_cons_zero, exists_eq_left', exists_eq_left, true_and, and_true, pickL, if_true, if_false, Bool.false_eq_true, Bool.true_eq_false, Bool.not_true, Bool.not_false, decide_true, decide_false]
  rw [repl_emp, Bool.not_not]
  unfold isG
  cases ha : vs.any fun x => !isI 0 (h - 1) x with
  | true =>
    simp only [↓u_body, ↓u_seq, ↓u_if, ↓u_ret, ↓u_retN, ↓u_drop, ↓u_pass, ↓u_cont, ↓u_brk, ↓u_set, ↓u_par, ↓u_asg, ↓u_for, ↓u_nxP, ↓u_own, ↓u_append, ↓u_extend, ↓u_put, ↓u_ownE, ↓u_par2, ↓u_par3, ↓onlyB_f, ↓onlyB_t, slotO_f, slotO_t, ↓u_view, ↓u_viewT, ↓u_owns, ↓u_forAdd, ↓u_dict0, ↓u_pDict0, ↓u_pDict1, ↓u_setd, ↓u_look, ↓u_iVals, valsK_dcx, PSlot.obj.injEq, OV.dl.injEq, ↓u_frz, frz_own0, frz_val0, frz_no0, frz_obj0, frzS_lsts, frz_S, ↓u_gNm, ↓u_gTpT, ↓u_gTpL, ↓u_forN, ↓u_forC, ↓u_bin, ↓u_cons, ↓u_var0, ↓u_varS, ↓u_c, ↓u_tOf, ↓u_not, ↓u_and, ↓u_or, ↓u_andV, ↓u_orV, ↓u_notV, ↓u_ifE, ↓u_selC, ↓u_chain, ↓u_addI, ↓u_addT, ↓u_addL, ↓u_addG, ↓u_subI, ↓u_modI, ↓u_divI, ↓u_mulI, ↓u_mul2, ↓u_mul3, List.flatten_cons, List.flatten_nil, ↓u_ltI, ↓u_leI, ↓u_le2I, ↓w_le2G, ↓w_ltG, ↓u_gtI, ↓u_geI, ↓u_isN, ↓u_isNotN, ↓u_nil, ↓u_tup, ↓u_lst, ↓u_ixT, ↓u_ixL, ↓u_ixW0, ↓u_ixW1, ↓u_ixW2, ↓u_oNone, ↓u_oSome, ↓u_sl, ↓u_slT, ↓u_slL, ↓u_tru, ↓u_isi, ↓u_call, ↓u_fn1, ↓u_fnK, ↓u_abs, ↓u_min, ↓u_max, ↓u_boolI, ↓u_boolB, ↓u_rg1, ↓u_rg2, ↓u_lstRg, ↓u_tupRg, ↓u_iAny, ↓itemsL_one, ↓itemsK_tup, ↓itemsK_lst, ↓itemsK_gV, ↓itemsK_tV, ↓u_iRng1, ↓u_iRng2, ↓u_iEnum, ↓u_iZip, ↓u_comp, ↓u_take, ↓u_neS, ↓u_eqS, ↓pLen_tup, ↓pLen_lst, ↓pLen_tV, ↓pLen_gV, ↓pInt_int, ↓pInt_bl, ↓pTuple_tup, ↓pTuple_lst, ↓pList_tup, ↓pList_lst, sl_1, sl_2, sl_3, sl_4, sl_5, sl_6, sl_7, kind_non, kind_bl, kind_int, kind_str, kind_tup, kind_lst, kind_tV, kind_gV, truP_bl, truP_tup, truP_lst, truP_int, setsP, wipeP, atI_0, atI_1, atI_2, List.map_cons, List.map_nil, List.replicate_succ, List.replicate_zero, List.length_cons, List.length_nil, Nat.reduceSub, Nat.reduceAdd, Nat.zero_add, List.cons_append, List.nil_append, List.set_cons_succ, List.set_cons_zero, Option.some.injEq, PSlot.own.injEq, PSlot.obj.injEq, OV.lsts.injEq, exists_eq', exists_eq, List.getElem?_cons_succ, List.getElem?_cons_zero, exists_eq_left', exists_eq_left, true_and, and_true, pickL, if_true, if_false, Bool.false_eq_true, Bool.true_eq_false, Bool.not_true, Bool.not_false, decide_true, decide_false]
    have s0 : ∀ p : Prop, (0 ≤ sizeLine ∧ p) = p := fun p => propext ⟨fun z => z.2, fun z => ⟨Nat.zero_le _, z⟩⟩
    have : grpL (h - 1) 0 vs = false := by
      cases hg : grpL (h - 1) 0 vs with
      | false => rfl
      | true =>
        obtain ⟨l, rfl, p, q⟩ := grpL_iff.mp hg
        obtain ⟨x, hx, hn⟩ := List.any_eq_true.mp ha
        obtain ⟨y, hy, rfl⟩ := List.mem_map.mp hx
        have := q y hy
        unfold isI at hn
        simp [this.1, this.2] at hn
    rw [this, s0]
  | false =>
    obtain ⟨l, rfl, hq⟩ : ∃ l : List Int, vs = l.map PV.int ∧ ∀ x ∈ l, 0 ≤ x ∧ x ≤ h - 1 := by
      clear cm hvs hl hd
      induction vs with
      | nil => exact ⟨[], rfl, fun _ z => by cases z⟩
      | cons v vs ih =>
        rw [List.any_cons, Bool.or_eq_false_iff] at ha
        obtain ⟨l, rfl, q⟩ := ih ha.2
        obtain ⟨x, rfl, h1, h2⟩ := isI_num (by simpa using ha.1)
        refine ⟨x :: l, rfl, fun y hy => ?_⟩
        rcases List.mem_cons.mp hy with rfl | hy
        · exact ⟨h1, h2⟩
        · exact q y hy
    rw [List.length_map] at hvs
    have eN : ((l.length : Int) - 1).toNat = l.length - 1 := by omega
    rw [fold_g]
    show _ = P (.bl (grpL (h - 1) 0 (l.map PV.int))) t
    have cm2 := fun P E => comp_eq (t := t) (P := P) (E := E) (i := 3) (c := pTOf (pBin pGe (pBin pIx (pVar 1) (pBin pSub (pVar 3) (pC (.int 1)))) (pBin pIx (pVar 1) (pVar 3)))) (e := pVar 3) (π := [.val (.int h), .val (gV l), .no, .no]) (fun i : Nat => PV.int (1 + i)) (fun i => decide (l.getD i 0 ≥ l.getD (i + 1) 0)) (fun i : Nat => PV.int (1 + i)) (List.range (l.length - 1)) [] (by rw [sl_eq]; simp; omega) (fun x hx t K => by
      have hx := List.mem_range.mp hx
      have h1 : (1 : Int) + (x : Int) - 1 = ((x : Nat) : Int) := by omega
      have h2 : (1 : Int) + (x : Int) = ((x + 1 : Nat) : Int) := by omega
      have hl1 : x < l.length := by omega
      have hl2 : x + 1 < l.length := by omega
      simp only [↓h1, ↓w_ixGV hl1, ↓u_body, ↓u_seq, ↓u_if, ↓u_ret, ↓u_retN, ↓u_drop, ↓u_pass, ↓u_cont, ↓u_brk, ↓u_set, ↓u_par, ↓u_asg, ↓u_for, ↓u_nxP, ↓u_own, ↓u_append, ↓u_extend, ↓u_put, ↓u_ownE, ↓u_par2, ↓u_par3, ↓onlyB_f, ↓onlyB_t, slotO_f, slotO_t, ↓u_view, ↓u_viewT, ↓u_owns, ↓u_forAdd, ↓u_dict0, ↓u_pDict0, ↓u_pDict1, ↓u_setd, ↓u_look, ↓u_iVals, valsK_dcx, PSlot.obj.injEq, OV.dl.injEq, ↓u_frz, frz_own0, frz_val0, frz_no0, frz_obj0, frzS_lsts, frz_S, ↓u_gNm, ↓u_gTpT, ↓u_gTpL, ↓u_forN, ↓u_forC, ↓u_bin, ↓u_cons, ↓u_var0, ↓u_varS, ↓u_c, ↓u_tOf, ↓u_not, ↓u_and, ↓u_or, ↓u_andV, ↓u_orV, ↓u_notV, ↓u_ifE, ↓u_selC, ↓u_chain, ↓u_addI, ↓u_addT, ↓u_addL, ↓u_addG, ↓u_subI, ↓u_modI, ↓u_divI, ↓u_mulI, ↓u_mul2, ↓u_mul3, List.flatten_cons, List.flatten_nil, ↓u_ltI, ↓u_leI, ↓u_le2I, ↓w_le2G, ↓w_ltG, ↓u_gtI, ↓u_geI, ↓u_isN, ↓u_isNotN, ↓u_nil, ↓u_tup, ↓u_lst, ↓u_ixT, ↓u_ixL, ↓u_ixW0, ↓u_ixW1, ↓u_ixW2, ↓u_oNone, ↓u_oSome, ↓u_sl, ↓u_slT, ↓u_slL, ↓u_tru, ↓u_isi, ↓u_call, ↓u_fn1, ↓u_fnK, ↓u_abs, ↓u_min, ↓u_max, ↓u_boolI, ↓u_boolB, ↓u_rg1, ↓u_rg2, ↓u_lstRg, ↓u_tupRg, ↓u_iAny, ↓itemsL_one, ↓itemsK_tup, ↓itemsK_lst, ↓itemsK_gV, ↓itemsK_tV, ↓u_iRng1, ↓u_iRng2, ↓u_iEnum, ↓u_iZip, ↓u_comp, ↓u_take, ↓u_neS, ↓u_eqS, ↓pLen_tup, ↓pLen_lst, ↓pLen_tV, ↓pLen_gV, ↓pInt_int, ↓pInt_bl, ↓pTuple_tup, ↓pTuple_lst, ↓pList_tup, ↓pList_lst, sl_1, sl_2, sl_3, sl_4, sl_5, sl_6, sl_7, kind_non, kind_bl, kind_int, kind_str, kind_tup, kind_lst, kind_tV, kind_gV, truP_bl, truP_tup, truP_lst, truP_int, setsP, wipeP, atI_0, atI_1, atI_2, List.map_cons, List.map_nil, List.replicate_succ, List.replicate_zero, List.length_cons, List.length_nil, Nat.reduceSub, Nat.reduceAdd, Nat.zero_add, List.cons_append, List.nil_append, List.set_cons_succ, List.set_cons_zero, Option.some.injEq, PSlot.own.injEq, PSlot.obj.injEq, OV.lsts.injEq, exists_eq', exists_eq, List.getElem?_cons_succ, List.getElem?_cons_zero, exists_eq_left', exists_eq_left, true_and, and_true, pickL, if_true, if_false, Bool.false_eq_true, Bool.true_eq_false, Bool.not_true, Bool.not_false, decide_true, decide_false]
      rw [h2]
      simp only [↓w_ixGV hl2, List.getD_eq_getElem?_getD, List.getElem?_eq_getElem hl1, List.getElem?_eq_getElem hl2, ↓Option.getD_some, ↓u_body, ↓u_seq, ↓u_if, ↓u_ret, ↓u_retN, ↓u_drop, ↓u_pass, ↓u_cont, ↓u_brk, ↓u_set, ↓u_par, ↓u_asg, ↓u_for, ↓u_nxP, ↓u_own, ↓u_append, ↓u_extend, ↓u_put, ↓u_ownE, ↓u_par2, ↓u_par3, ↓onlyB_f, ↓onlyB_t, slotO_f, slotO_t, ↓u_view, ↓u_viewT, ↓u_owns, ↓u_forAdd, ↓u_dict0, ↓u_pDict0, ↓u_pDict1, ↓u_setd, ↓u_look, ↓u_iVals, valsK_dcx, PSlot.obj.injEq, OV.dl.injEq, ↓u_frz, frz_own0, frz_val0, frz_no0, frz_obj0, frzS_lsts, frz_S, ↓u_gNm, ↓u_gTpT, ↓u_gTpL, ↓u_forN, ↓u_forC, ↓u_bin, ↓u_cons, ↓u_var0, ↓u_varS, ↓u_c, ↓u_tOf, ↓u_not, ↓u_and, ↓u_or, ↓u_andV, ↓u_orV, ↓u_notV, ↓u_ifE, ↓u_selC, ↓u_chain, ↓u_addI, ↓u_addT, ↓u_addL, ↓u_addG, ↓u_subI, ↓u_modI, ↓u_divI, ↓u_mulI, ↓u_mul2, ↓u_mul3, List.flatten_cons, List.flatten_nil, ↓u_ltI, ↓u_leI, ↓u_le2I, ↓w_le2G, ↓w_ltG, ↓u_gtI, ↓u_geI, ↓u_isN, ↓u_isNotN, ↓u_nil, ↓u_tup, ↓u_lst, ↓u_ixT, ↓u_ixL, ↓u_ixW0, ↓u_ixW1, ↓u_ixW2, ↓u_oNone, ↓u_oSome, ↓u_sl, ↓u_slT, ↓u_slL, ↓u_tru, ↓u_isi, ↓u_call, ↓u_fn1, ↓u_fnK, ↓u_abs, ↓u_min, ↓u_max, ↓u_boolI, ↓u_boolB, ↓u_rg1, ↓u_rg2, ↓u_lstRg, ↓u_tupRg, ↓u_iAny, ↓itemsL_one, ↓itemsK_tup, ↓itemsK_lst, ↓itemsK_gV, ↓itemsK_tV, ↓u_iRng1, ↓u_iRng2, ↓u_iEnum, ↓u_iZip, ↓u_comp, ↓u_take, ↓u_neS, ↓u_eqS, ↓pLen_tup, ↓pLen_lst, ↓pLen_tV, ↓pLen_gV, ↓pInt_int, ↓pInt_bl, ↓pTuple_tup, ↓pTuple_lst, ↓pList_tup, ↓pList_lst, sl_1, sl_2, sl_3, sl_4, sl_5, sl_6, sl_7, kind_non, kind_bl, kind_int, kind_str, kind_tup, kind_lst, kind_tV, kind_gV, truP_bl, truP_tup, truP_lst, truP_int, setsP, wipeP, atI_0, atI_1, atI_2, List.map_cons, List.map_nil, List.replicate_succ, List.replicate_zero, List.length_cons, List.length_nil, Nat.reduceSub, Nat.reduceAdd, Nat.zero_add, List.cons_append, List.nil_append, List.set_cons_succ, List.set_cons_zero, Option.some.injEq, PSlot.own.injEq, PSlot.obj.injEq, OV.lsts.injEq, exists_eq', exists_eq, List.getElem?_cons_succ, List.getElem?_cons_zero, exists_eq_left', exists_eq_left, true_and, and_true, pickL, if_true, if_false, Bool.false_eq_true, Bool.true_eq_false, Bool.not_true, Bool.not_false, decide_true, decide_false]) (fun x hx _ t K => by simp only [↓u_body, ↓u_seq, ↓u_if, ↓u_ret, ↓u_retN, ↓u_drop, ↓u_pass, ↓u_cont, ↓u_brk, ↓u_set, ↓u_par, ↓u_asg, ↓u_for, ↓u_nxP, ↓u_own, ↓u_append, ↓u_extend, ↓u_put, ↓u_ownE, ↓u_par2, ↓u_par3, ↓onlyB_f, ↓onlyB_t, slotO_f, slotO_t, ↓u_view, ↓u_viewT, ↓u_owns, ↓u_forAdd, ↓u_dict0, ↓u_pDict0, ↓u_pDict1, ↓u_setd, ↓u_look, ↓u_iVals, valsK_dcx, PSlot.obj.injEq, OV.dl.injEq, ↓u_frz, frz_own0, frz_val0, frz_no0, frz_obj0, frzS_lsts, frz_S, ↓u_gNm, ↓u_gTpT, ↓u_gTpL, ↓u_forN, ↓u_forC, ↓u_bin, ↓u_cons, ↓u_var0, ↓u_varS, ↓u_c, ↓u_tOf, ↓u_not, ↓u_and, ↓u_or, ↓u_andV, ↓u_orV, ↓u_notV, ↓u_ifE, ↓u_selC, ↓u_chain, ↓u_addI, ↓u_addT, ↓u_addL, ↓u_addG, ↓u_subI, ↓u_modI, ↓u_divI, ↓u_mulI, ↓u_mul2, ↓u_mul3, List.flatten_cons, List.flatten_nil, ↓u_ltI, ↓u_leI, ↓u_le2I, ↓w_le2G, ↓w_ltG, ↓u_gtI, ↓u_geI, ↓u_isN, ↓u_isNotN, ↓u_nil, ↓u_tup, ↓u_lst, ↓u_ixT, ↓u_ixL, ↓u_ixW0, ↓u_ixW1, ↓u_ixW2, ↓u_oNone, ↓u_oSome, ↓u_sl, ↓u_slT, ↓u_slL, ↓u_tru, ↓u_isi, ↓u_call, ↓u_fn1, ↓u_fnK, ↓u_abs, ↓u_min, ↓u_max, ↓u_boolI, ↓u_boolB, ↓u_rg1, ↓u_rg2, ↓u_lstRg, ↓u_tupRg, ↓u_iAny, ↓itemsL_one, ↓itemsK_tup, ↓itemsK_lst, ↓itemsK_gV, ↓itemsK_tV, ↓u_iRng1, ↓u_iRng2, ↓u_iEnum, ↓u_iZip, ↓u_comp, ↓u_take, ↓u_neS, ↓u_eqS, ↓pLen_tup, ↓pLen_lst, ↓pLen_tV, ↓pLen_gV, ↓pInt_int, ↓pInt_bl, ↓pTuple_tup, ↓pTuple_lst, ↓pList_tup, ↓pList_lst, sl_1, sl_2, sl_3, sl_4, sl_5, sl_6, sl_7, kind_non, kind_bl, kind_int, kind_str, kind_tup, kind_lst, kind_tV, kind_gV, truP_bl, truP_tup, truP_lst, truP_int, setsP, wipeP, atI_0, atI_1, atI_2, List.map_cons, List.map_nil, List.replicate_succ, List.replicate_zero, List.length_cons, List.length_nil, Nat.reduceSub, Nat.reduceAdd, Nat.zero_add, List.cons_append, List.nil_append, List.set_cons_succ, List.set_cons_zero, Option.some.injEq, PSlot.own.injEq, PSlot.obj.injEq, OV.lsts.injEq, exists_eq', exists_eq, List.getElem?_cons_succ, List.getElem?_cons_zero, exists_eq_left', exists_eq_left, true_and, and_true, pickL, if_true, if_false, Bool.false_eq_true, Bool.true_eq_false, Bool.not_true, Bool.not_false, decide_true, decide_false])
    have rg : rangeP 1 (l.length - 1) = (List.range (l.length - 1)).map fun i : Nat => PV.int (1 + i) := rfl
    have bd : -(2 ^ 62) ≤ (l.length : Int) ∧ (l.length : Int) < 2 ^ 62 := by omega
    have s0 : ∀ p : Prop, (0 ≤ sizeLine ∧ p) = p := fun p => propext ⟨fun z => z.2, fun z => ⟨Nat.zero_le _, z⟩⟩
    have b1 : -(2 ^ 62) ≤ (1 : Int) ∧ (1 : Int) < 2 ^ 62 := by omega
    simp only [List.nil_append] at cm2
    have en := niceN_map (downs l) (Nat.le_trans (List.length_filter_le _ _) (by simp; omega)) (fun i hi => by
      have := List.mem_range.mp (List.mem_filter.mp hi).1
      omega)
    unfold downs at en
    simp only [List.length_map, ↓s0, ↓eN, ↓rg, ↓bd, ↓b1, ↓cm2, ↓w_eqNil en (show 0 ≤ 12 by omega), List.isEmpty_map, ↓u_body, ↓u_seq, ↓u_if, ↓u_ret, ↓u_retN, ↓u_drop, ↓u_pass, ↓u_cont, ↓u_brk, ↓u_set, ↓u_par, ↓u_asg, ↓u_for, ↓u_nxP, ↓u_own, ↓u_append, ↓u_extend, ↓u_put, ↓u_ownE, ↓u_par2, ↓u_par3, ↓onlyB_f, ↓onlyB_t, slotO_f, slotO_t, ↓u_view, ↓u_viewT, ↓u_owns, ↓u_forAdd, ↓u_dict0, ↓u_pDict0, ↓u_pDict1, ↓u_setd, ↓u_look, ↓u_iVals, valsK_dcx, PSlot.obj.injEq, OV.dl.injEq, ↓u_frz, frz_own0, frz_val0, frz_no0, frz_obj0, frzS_lsts, frz_S, ↓u_gNm, ↓u_gTpT, ↓u_gTpL, ↓u_forN, ↓u_forC, ↓u_bin, ↓u_cons, ↓u_var0, ↓u_varS, ↓u_c, ↓u_tOf, ↓u_not, ↓u_and, ↓u_or, ↓u_andV, ↓u_orV, ↓u_notV, ↓u_ifE, ↓u_selC, ↓u_chain, ↓u_addI, ↓u_addT, ↓u_addL, ↓u_addG, ↓u_subI, ↓u_modI, ↓u_divI, ↓u_mulI, ↓u_mul2, ↓u_mul3, List.flatten_cons, List.flatten_nil, ↓u_ltI, ↓u_leI, ↓u_le2I, ↓w_le2G, ↓w_ltG, ↓u_gtI, ↓u_geI, ↓u_isN, ↓u_isNotN, ↓u_nil, ↓u_tup, ↓u_lst, ↓u_ixT, ↓u_ixL, ↓u_ixW0, ↓u_ixW1, ↓u_ixW2, ↓u_oNone, ↓u_oSome, ↓u_sl, ↓u_slT, ↓u_slL, ↓u_tru, ↓u_isi, ↓u_call, ↓u_fn1, ↓u_fnK, ↓u_abs, ↓u_min, ↓u_max, ↓u_boolI, ↓u_boolB, ↓u_rg1, ↓u_rg2, ↓u_lstRg, ↓u_tupRg, ↓u_iAny, ↓itemsL_one, ↓itemsK_tup, ↓itemsK_lst, ↓itemsK_gV, ↓itemsK_tV, ↓u_iRng1, ↓u_iRng2, ↓u_iEnum, ↓u_iZip, ↓u_comp, ↓u_take, ↓u_neS, ↓u_eqS, ↓pLen_tup, ↓pLen_lst, ↓pLen_tV, ↓pLen_gV, ↓pInt_int, ↓pInt_bl, ↓pTuple_tup, ↓pTuple_lst, ↓pList_tup, ↓pList_lst, sl_1, sl_2, sl_3, sl_4, sl_5, sl_6, sl_7, kind_non, kind_bl, kind_int, kind_str, kind_tup, kind_lst, kind_tV, kind_gV, truP_bl, truP_tup, truP_lst, truP_int, setsP, wipeP, atI_0, atI_1, atI_2, List.map_cons, List.map_nil, List.replicate_succ, List.replicate_zero, List.length_cons, List.length_nil, Nat.reduceSub, Nat.reduceAdd, Nat.zero_add, List.cons_append, List.nil_append, List.set_cons_succ, List.set_cons_zero, Option.some.injEq, PSlot.own.injEq, PSlot.obj.injEq, OV.lsts.injEq, exists_eq', exists_eq, List.getElem?_cons_succ, List.getElem?_cons_zero, exists_eq_left', exists_eq_left, true_and, and_true, pickL, if_true, if_false, Bool.false_eq_true, Bool.true_eq_false, Bool.not_true, Bool.not_false, decide_true, decide_false]
    have d := downs_emp l
    unfold downs at d
    have e2 : grpL (h - 1) 0 (l.map PV.int) = ((List.range (l.length - 1)).filter fun i => decide (l.getD i 0 ≥ l.getD (i + 1) 0)).isEmpty := by
      rw [Bool.eq_iff_iff, d, grpL_iff]
      constructor
      · rintro ⟨l', e, p, q⟩
        rw [← gV_inj (congrArg PV.tup e)]; exact p
      · intro p; exact ⟨l, rfl, p, hq⟩
    rw [e2]
theorem w_groups_loop {h : PV} {body : PSt} {R : Prop} {Q : PPs} (hb : body = psSeq (psSet 1 (pBin pAdd (pVar 1) (pComp (piAny (pVar 1)) (pbNm 3) [3] pYes (pBin pAdd (pVar 3) (pTup (pCons (pVar 2) pNil))))))
  psPass) : ∀ (ns : List Int) (L : List (List Int)) (o : PSlot), ns.length ≤ 10 → L.length * 2 ^ ns.length ≤ 1024 → (∀ l ∈ L, l.length + ns.length ≤ 10) → (∀ o, Q.nx [.val h, .val (.lst ((goG L ns).map gV)), o, .no] t = R) → forW (pgNm 2) body (ns.map PV.int) [.val h, .val (.lst (L.map gV)), o, .no] t Q = R
  | [], L, o, _, _, _, hQ => hQ o
  | n :: ns, L, o, hn, hL, hm, hQ => by
    rw [List.length_cons] at hn
    have hL1 : L.length * 2 * 2 ^ ns.length ≤ 1024 := by
      rw [List.length_cons, Nat.pow_succ] at hL
      calc L.length * 2 * 2 ^ ns.length = L.length * (2 ^ ns.length * 2) := by rw [Nat.mul_assoc, Nat.mul_comm 2]
        _ ≤ 1024 := hL
    have hpos : 1 ≤ 2 ^ ns.length := Nat.one_le_two_pow
    have hL2 : L.length * 2 ≤ 1024 := Nat.le_trans (Nat.le_mul_of_pos_right _ hpos) hL1
    have IH := w_groups_loop hb ns (L ++ L.map (· ++ [n])) (.val (.int n)) (by omega) (by rw [List.length_append, List.length_map, show L.length + L.length = L.length * 2 by omega]; exact hL1) (fun l hl => by
      rcases List.mem_append.mp hl with h1 | h1
      · have := hm l h1; rw [List.length_cons] at this; omega
      · obtain ⟨l', h2, rfl⟩ := List.mem_map.mp h1
        have := hm l' h2; rw [List.length_cons] at this; rw [List.length_append]; simp; omega) (hQ)
    rw [List.map_cons]
    unfold forW
    subst hb
    simp only [↓u_body, ↓u_seq, ↓u_if, ↓u_ret, ↓u_retN, ↓u_drop, ↓u_pass, ↓u_cont, ↓u_brk, ↓u_set, ↓u_par, ↓u_asg, ↓u_for, ↓u_nxP, ↓u_own, ↓u_append, ↓u_extend, ↓u_put, ↓u_ownE, ↓u_par2, ↓u_par3, ↓onlyB_f, ↓onlyB_t, slotO_f, slotO_t, ↓u_view, ↓u_viewT, ↓u_owns, ↓u_forAdd, ↓u_dict0, ↓u_pDict0, ↓u_pDict1, ↓u_setd, ↓u_look, ↓u_iVals, valsK_dcx, PSlot.obj.injEq, OV.dl.injEq, ↓u_frz, frz_own0, frz_val0, frz_no0, frz_obj0, frzS_lsts, frz_S, ↓u_gNm, ↓u_gTpT, ↓u_gTpL, ↓u_forN, ↓u_forC, ↓u_bin, ↓u_cons, ↓u_var0, ↓u_varS, ↓u_c, ↓u_tOf, ↓u_not, ↓u_and, ↓u_or, ↓u_andV, ↓u_orV, ↓u_notV, ↓u_ifE, ↓u_selC, ↓u_chain, ↓u_addI, ↓u_addT, ↓u_addL, ↓u_addG, ↓u_subI, ↓u_modI, ↓u_divI, ↓u_mulI, ↓u_mul2, ↓u_mul3, List.flatten_cons, List.flatten_nil, ↓u_ltI, ↓u_leI, ↓u_le2I, ↓w_le2G, ↓w_ltG, ↓u_gtI, ↓u_geI, ↓u_isN, ↓u_isNotN, ↓u_nil, ↓u_tup, ↓u_lst, ↓u_ixT, ↓u_ixL, ↓u_ixW0, ↓u_ixW1, ↓u_ixW2, ↓u_oNone, ↓u_oSome, ↓u_sl, ↓u_slT, ↓u_slL, ↓u_tru, ↓u_isi, ↓u_call, ↓u_fn1, ↓u_fnK, ↓u_abs, ↓u_min, ↓u_max, ↓u_boolI, ↓u_boolB, ↓u_rg1, ↓u_rg2, ↓u_lstRg, ↓u_tupRg, ↓u_iAny, ↓itemsL_one, ↓itemsK_tup, ↓itemsK_lst, ↓itemsK_gV, ↓itemsK_tV, ↓u_iRng1, ↓u_iRng2, ↓u_iEnum, ↓u_iZip, ↓u_comp, ↓u_take, ↓u_neS, ↓u_eqS, ↓pLen_tup, ↓pLen_lst, ↓pLen_tV, ↓pLen_gV, ↓pInt_int, ↓pInt_bl, ↓pTuple_tup, ↓pTuple_lst, ↓pList_tup, ↓pList_lst, sl_1, sl_2, sl_3, sl_4, sl_5, sl_6, sl_7, kind_non, kind_bl, kind_int, kind_str, kind_tup, kind_lst, kind_tV, kind_gV, truP_bl, truP_tup, truP_lst, truP_int, setsP, wipeP, atI_0, atI_1, atI_2, List.map_cons, List.map_nil, List.replicate_succ, List.replicate_zero, List.length_cons, List.length_nil, Nat.reduceSub, Nat.reduceAdd, Nat.zero_add, List.cons_append, List.nil_append, List.set_cons_succ, List.set_cons_zero, Option.some.injEq, PSlot.own.injEq, PSlot.obj.injEq, OV.lsts.injEq, exists_eq', exists_eq, List.getElem?_cons_succ, List.getElem?_cons_zero, exists_eq_left', exists_eq_left, true_and, and_true, pickL, if_true, if_false, Bool.false_eq_true, Bool.true_eq_false, Bool.not_true, Bool.not_false, decide_true, decide_false]
    rw [comp_map gV (fun l => gV (l ++ [n])) L (sl_le (by omega)) fun l hl t K => ?_]
    · simp only [List.length_map, ↓u_body, ↓u_seq, ↓u_if, ↓u_ret, ↓u_retN, ↓u_drop, ↓u_pass, ↓u_cont, ↓u_brk, ↓u_set, ↓u_par, ↓u_asg, ↓u_for, ↓u_nxP, ↓u_own, ↓u_append, ↓u_extend, ↓u_put, ↓u_ownE, ↓u_par2, ↓u_par3, ↓onlyB_f, ↓onlyB_t, slotO_f, slotO_t, ↓u_view, ↓u_viewT, ↓u_owns, ↓u_forAdd, ↓u_dict0, ↓u_pDict0, ↓u_pDict1, ↓u_setd, ↓u_look, ↓u_iVals, valsK_dcx, PSlot.obj.injEq, OV.dl.injEq, ↓u_frz, frz_own0, frz_val0, frz_no0, frz_obj0, frzS_lsts, frz_S, ↓u_gNm, ↓u_gTpT, ↓u_gTpL, ↓u_forN, ↓u_forC, ↓u_bin, ↓u_cons, ↓u_var0, ↓u_varS, ↓u_c, ↓u_tOf, ↓u_not, ↓u_and, ↓u_or, ↓u_andV, ↓u_orV, ↓u_notV, ↓u_ifE, ↓u_selC, ↓u_chain, ↓u_addI, ↓u_addT, ↓u_addL, ↓u_addG, ↓u_subI, ↓u_modI, ↓u_divI, ↓u_mulI, ↓u_mul2, ↓u_mul3, List.flatten_cons, List.flatten_nil, ↓u_ltI, ↓u_leI, ↓u_le2I, ↓w_le2G, ↓w_ltG, ↓u_gtI, ↓u_geI, ↓u_isN, ↓u_isNotN, ↓u_nil, ↓u_tup, ↓u_lst, ↓u_ixT, ↓u_ixL, ↓u_ixW0, ↓u_ixW1, ↓u_ixW2, ↓u_oNone, ↓u_oSome, ↓u_sl, ↓u_slT, ↓u_slL, ↓u_tru, ↓u_isi, ↓u_call, ↓u_fn1, ↓u_fnK, ↓u_abs, ↓u_min, ↓u_max, ↓u_boolI, ↓u_boolB, ↓u_rg1, ↓u_rg2, ↓u_lstRg, ↓u_tupRg, ↓u_iAny, ↓itemsL_one, ↓itemsK_tup, ↓itemsK_lst, ↓itemsK_gV, ↓itemsK_tV, ↓u_iRng1, ↓u_iRng2, ↓u_iEnum, ↓u_iZip, ↓u_comp, ↓u_take, ↓u_neS, ↓u_eqS, ↓pLen_tup, ↓pLen_lst, ↓pLen_tV, ↓pLen_gV, ↓pInt_int, ↓pInt_bl, ↓pTuple_tup, ↓pTuple_lst, ↓pList_tup, ↓pList_lst, sl_1, sl_2, sl_3, sl_4, sl_5, sl_6, sl_7, kind_non, kind_bl, kind_int, kind_str, kind_tup, kind_lst, kind_tV, kind_gV, truP_bl, truP_tup, truP_lst, truP_int, setsP, wipeP, atI_0, atI_1, atI_2, List.map_cons, List.map_nil, List.replicate_succ, List.replicate_zero, List.length_cons, List.length_nil, Nat.reduceSub, Nat.reduceAdd, Nat.zero_add, List.cons_append, List.nil_append, List.set_cons_succ, List.set_cons_zero, Option.some.injEq, PSlot.own.injEq, PSlot.obj.injEq, OV.lsts.injEq, exists_eq', exists_eq, List.getElem?_cons_succ, List.getElem?_cons_zero, exists_eq_left', exists_eq_left, true_and, and_true, pickL, if_true, if_false, Bool.false_eq_true, Bool.true_eq_false, Bool.not_true, Bool.not_false, decide_true, decide_false]
      have e : L.map gV ++ L.map (fun l => gV (l ++ [n])) = (L ++ L.map (· ++ [n])).map gV := by
        rw [List.map_append, List.map_map]; rfl
      rw [e, ← IH]
      refine propext ⟨fun z => z.2, fun z => ⟨sl_le (by omega), z⟩⟩
    · have := hm l hl
      rw [List.length_cons] at this
      unfold gV
      simp only [List.length_map, ↓map_app, ↓u_body, ↓u_seq, ↓u_if, ↓u_ret, ↓u_retN, ↓u_drop, ↓u_pass, ↓u_cont, ↓u_brk, ↓u_set, ↓u_par, ↓u_asg, ↓u_for, ↓u_nxP, ↓u_own, ↓u_append, ↓u_extend, ↓u_put, ↓u_ownE, ↓u_par2, ↓u_par3, ↓onlyB_f, ↓onlyB_t, slotO_f, slotO_t, ↓u_view, ↓u_viewT, ↓u_owns, ↓u_forAdd, ↓u_dict0, ↓u_pDict0, ↓u_pDict1, ↓u_setd, ↓u_look, ↓u_iVals, valsK_dcx, PSlot.obj.injEq, OV.dl.injEq, ↓u_frz, frz_own0, frz_val0, frz_no0, frz_obj0, frzS_lsts, frz_S, ↓u_gNm, ↓u_gTpT, ↓u_gTpL, ↓u_forN, ↓u_forC, ↓u_bin, ↓u_cons, ↓u_var0, ↓u_varS, ↓u_c, ↓u_tOf, ↓u_not, ↓u_and, ↓u_or, ↓u_andV, ↓u_orV, ↓u_notV, ↓u_ifE, ↓u_selC, ↓u_chain, ↓u_addI, ↓u_addT, ↓u_addL, ↓u_addG, ↓u_subI, ↓u_modI, ↓u_divI, ↓u_mulI, ↓u_mul2, ↓u_mul3, List.flatten_cons, List.flatten_nil, ↓u_ltI, ↓u_leI, ↓u_le2I, ↓w_le2G, ↓w_ltG, ↓u_gtI, ↓u_geI, ↓u_isN, ↓u_isNotN, ↓u_nil, ↓u_tup, ↓u_lst, ↓u_ixT, ↓u_ixL, ↓u_ixW0, ↓u_ixW1, ↓u_ixW2, ↓u_oNone, ↓u_oSome, ↓u_sl, ↓u_slT, ↓u_slL, ↓u_tru, ↓u_isi, ↓u_call, ↓u_fn1, ↓u_fnK, ↓u_abs, ↓u_min, ↓u_max, ↓u_boolI, ↓u_boolB, ↓u_rg1, ↓u_rg2, ↓u_lstRg, ↓u_tupRg, ↓u_iAny, ↓itemsL_one, ↓itemsK_tup, ↓itemsK_lst, ↓itemsK_gV, ↓itemsK_tV, ↓u_iRng1, ↓u_iRng2, ↓u_iEnum, ↓u_iZip, ↓u_comp, ↓u_take, ↓u_neS, ↓u_eqS, ↓pLen_tup, ↓pLen_lst, ↓pLen_tV, ↓pLen_gV, ↓pInt_int, ↓pInt_bl, ↓pTuple_tup, ↓pTuple_lst, ↓pList_tup, ↓pList_lst, sl_1, sl_2, sl_3, sl_4, sl_5, sl_6, sl_7, kind_non, kind_bl, kind_int, kind_str, kind_tup, kind_lst, kind_tV, kind_gV, truP_bl, truP_tup, truP_lst, truP_int, setsP, wipeP, atI_0, atI_1, atI_2, List.map_cons, List.map_nil, List.replicate_succ, List.replicate_zero, List.length_cons, List.length_nil, Nat.reduceSub, Nat.reduceAdd, Nat.zero_add, List.cons_append, List.nil_append, List.set_cons_succ, List.set_cons_zero, Option.some.injEq, PSlot.own.injEq, PSlot.obj.injEq, OV.lsts.injEq, exists_eq', exists_eq, List.getElem?_cons_succ, List.getElem?_cons_zero, exists_eq_left', exists_eq_left, true_and, and_true, pickL, if_true, if_false, Bool.false_eq_true, Bool.true_eq_false, Bool.not_true, Bool.not_false, decide_true, decide_false]
      refine propext ⟨fun z => z.2, fun z => ⟨sl_le (by omega), z⟩⟩
theorem parts_ne (h : Nat) : partsI (upto h) ≠ [] := by
  intro e
  have h1 := partsI_len (upto h)
  rw [e, List.length_nil] at h1
  have h2 := Nat.two_pow_pos (upto h).length
  omega
theorem parts_le {h : Nat} (hh : h ≤ 10) : (partsI (upto h)).length ≤ 1024 := by
  rw [partsI_len, upto_len]
  exact Nat.le_trans (Nat.pow_le_pow_right (by decide) hh) (by decide)
theorem w_parts {l : List Int} (hl : l.length ≤ 10) : pf_parts [gV l] t P E = P (tV (partsI l)) t := by
  unfold pf_parts pb_parts
  simp only [↓u_body, ↓u_seq, ↓u_if, ↓u_ret, ↓u_retN, ↓u_drop, ↓u_pass, ↓u_cont, ↓u_brk, ↓u_set, ↓u_par, ↓u_asg, ↓u_for, ↓u_nxP, ↓u_own, ↓u_append, ↓u_extend, ↓u_put, ↓u_ownE, ↓u_par2, ↓u_par3, ↓onlyB_f, ↓onlyB_t, slotO_f, slotO_t, ↓u_view, ↓u_viewT, ↓u_owns, ↓u_forAdd, ↓u_dict0, ↓u_pDict0, ↓u_pDict1, ↓u_setd, ↓u_look, ↓u_iVals, valsK_dcx, PSlot.obj.injEq, OV.dl.injEq, ↓u_frz, frz_own0, frz_val0, frz_no0, frz_obj0, frzS_lsts, frz_S, ↓u_gNm, ↓u_gTpT, ↓u_gTpL, ↓u_forN, ↓u_forC, ↓u_bin, ↓u_cons, ↓u_var0, ↓u_varS, ↓u_c, ↓u_tOf, ↓u_not, ↓u_and, ↓u_or, ↓u_andV, ↓u_orV, ↓u_notV, ↓u_ifE, ↓u_selC, ↓u_chain, ↓u_addI, ↓u_addT, ↓u_addL, ↓u_addG, ↓u_subI, ↓u_modI, ↓u_divI, ↓u_mulI, ↓u_mul2, ↓u_mul3, List.flatten_cons, List.flatten_nil, ↓u_ltI, ↓u_leI, ↓u_le2I, ↓w_le2G, ↓w_ltG, ↓u_gtI, ↓u_geI, ↓u_isN, ↓u_isNotN, ↓u_nil, ↓u_tup, ↓u_lst, ↓u_ixT, ↓u_ixL, ↓u_ixW0, ↓u_ixW1, ↓u_ixW2, ↓u_oNone, ↓u_oSome, ↓u_sl, ↓u_slT, ↓u_slL, ↓u_tru, ↓u_isi, ↓u_call, ↓u_fn1, ↓u_fnK, ↓u_abs, ↓u_min, ↓u_max, ↓u_boolI, ↓u_boolB, ↓u_rg1, ↓u_rg2, ↓u_lstRg, ↓u_tupRg, ↓u_iAny, ↓itemsL_one, ↓itemsK_tup, ↓itemsK_lst, ↓itemsK_gV, ↓itemsK_tV, ↓u_iRng1, ↓u_iRng2, ↓u_iEnum, ↓u_iZip, ↓u_comp, ↓u_take, ↓u_neS, ↓u_eqS, ↓pLen_tup, ↓pLen_lst, ↓pLen_tV, ↓pLen_gV, ↓pInt_int, ↓pInt_bl, ↓pTuple_tup, ↓pTuple_lst, ↓pList_tup, ↓pList_lst, sl_1, sl_2, sl_3, sl_4, sl_5, sl_6, sl_7, kind_non, kind_bl, kind_int, kind_str, kind_tup, kind_lst, kind_tV, kind_gV, truP_bl, truP_tup, truP_lst, truP_int, setsP, wipeP, atI_0, atI_1, atI_2, List.map_cons, List.map_nil, List.replicate_succ, List.replicate_zero, List.length_cons, List.length_nil, Nat.reduceSub, Nat.reduceAdd, Nat.zero_add, List.cons_append, List.nil_append, List.set_cons_succ, List.set_cons_zero, Option.some.injEq, PSlot.own.injEq, PSlot.obj.injEq, OV.lsts.injEq, exists_eq', exists_eq, List.getElem?_cons_succ, List.getElem?_cons_zero, exists_eq_left', exists_eq_left, true_and, and_true, pickL, if_true, if_false, Bool.false_eq_true, Bool.true_eq_false, Bool.not_true, Bool.not_false, decide_true, decide_false]
  have L0 : [PV.tup []] = [([] : List Int)].map gV := rfl
  rw [L0, w_groups_loop (R := P (tV (partsI l)) t) rfl l [[]] .no hl (Nat.le_trans (Nat.mul_le_mul_left _ (Nat.pow_le_pow_right (by decide) hl)) (by decide)) (fun x hx => by
    rw [List.mem_singleton.mp hx]; simpa using hl) fun o => by simp only [↓w_sortL, ↓fold_t, ↓u_body, ↓u_seq, ↓u_if, ↓u_ret, ↓u_retN, ↓u_drop, ↓u_pass, ↓u_cont, ↓u_brk, ↓u_set, ↓u_par, ↓u_asg, ↓u_for, ↓u_nxP, ↓u_own, ↓u_append, ↓u_extend, ↓u_put, ↓u_ownE, ↓u_par2, ↓u_par3, ↓onlyB_f, ↓onlyB_t, slotO_f, slotO_t, ↓u_view, ↓u_viewT, ↓u_owns, ↓u_forAdd, ↓u_dict0, ↓u_pDict0, ↓u_pDict1, ↓u_setd, ↓u_look, ↓u_iVals, valsK_dcx, PSlot.obj.injEq, OV.dl.injEq, ↓u_frz, frz_own0, frz_val0, frz_no0, frz_obj0, frzS_lsts, frz_S, ↓u_gNm, ↓u_gTpT, ↓u_gTpL, ↓u_forN, ↓u_forC, ↓u_bin, ↓u_cons, ↓u_var0, ↓u_varS, ↓u_c, ↓u_tOf, ↓u_not, ↓u_and, ↓u_or, ↓u_andV, ↓u_orV, ↓u_notV, ↓u_ifE, ↓u_selC, ↓u_chain, ↓u_addI, ↓u_addT, ↓u_addL, ↓u_addG, ↓u_subI, ↓u_modI, ↓u_divI, ↓u_mulI, ↓u_mul2, ↓u_mul3, List.flatten_cons, List.flatten_nil, ↓u_ltI, ↓u_leI, ↓u_le2I, ↓w_le2G, ↓w_ltG, ↓u_gtI, ↓u_geI, ↓u_isN, ↓u_isNotN, ↓u_nil, ↓u_tup, ↓u_lst, ↓u_ixT, ↓u_ixL, ↓u_ixW0, ↓u_ixW1, ↓u_ixW2, ↓u_oNone, ↓u_oSome, ↓u_sl, ↓u_slT, ↓u_slL, ↓u_tru, ↓u_isi, ↓u_call, ↓u_fn1, ↓u_fnK, ↓u_abs, ↓u_min, ↓u_max, ↓u_boolI, ↓u_boolB, ↓u_rg1, ↓u_rg2, ↓u_lstRg, ↓u_tupRg, ↓u_iAny, ↓itemsL_one, ↓itemsK_tup, ↓itemsK_lst, ↓itemsK_gV, ↓itemsK_tV, ↓u_iRng1, ↓u_iRng2, ↓u_iEnum, ↓u_iZip, ↓u_comp, ↓u_take, ↓u_neS, ↓u_eqS, ↓pLen_tup, ↓pLen_lst, ↓pLen_tV, ↓pLen_gV, ↓pInt_int, ↓pInt_bl, ↓pTuple_tup, ↓pTuple_lst, ↓pList_tup, ↓pList_lst, sl_1, sl_2, sl_3, sl_4, sl_5, sl_6, sl_7, kind_non, kind_bl, kind_int, kind_str, kind_tup, kind_lst, kind_tV, kind_gV, truP_bl, truP_tup, truP_lst, truP_int, setsP, wipeP, atI_0, atI_1, atI_2, List.map_cons, List.map_nil, List.replicate_succ, List.replicate_zero, List.length_cons, List.length_nil, Nat.reduceSub, Nat.reduceAdd, Nat.zero_add, List.cons_append, List.nil_append, List.set_cons_succ, List.set_cons_zero, Option.some.injEq, PSlot.own.injEq, PSlot.obj.injEq, OV.lsts.injEq, exists_eq', exists_eq, List.getElem?_cons_succ, List.getElem?_cons_zero, exists_eq_left', exists_eq_left, true_and, and_true, pickL, if_true, if_false, Bool.false_eq_true, Bool.true_eq_false, Bool.not_true, Bool.not_false, decide_true, decide_false]; rfl]
  refine propext ⟨fun z => z.2, fun z => ⟨Nat.zero_le _, z⟩⟩
theorem w_groups {h : Nat} (hh : h ≤ 10) : pf_groups [.int h] t P E = P (tV (partsI (upto h))) t := by
  have e : ((h : Int) - 0).toNat = h := by omega
  have rg : RgOk 0 (h : Int) := by unfold RgOk; omega
  unfold pf_groups pb_groups
  simp only [↓rg, ↓e, ↓rangeP_upto, ↓fold_g, ↓w_parts (show (upto h).length ≤ 10 by rw [upto_len]; exact hh), ↓u_body, ↓u_seq, ↓u_if, ↓u_ret, ↓u_retN, ↓u_drop, ↓u_pass, ↓u_cont, ↓u_brk, ↓u_set, ↓u_par, ↓u_asg, ↓u_for, ↓u_nxP, ↓u_own, ↓u_append, ↓u_extend, ↓u_put, ↓u_ownE, ↓u_par2, ↓u_par3, ↓onlyB_f, ↓onlyB_t, slotO_f, slotO_t, ↓u_view, ↓u_viewT, ↓u_owns, ↓u_forAdd, ↓u_dict0, ↓u_pDict0, ↓u_pDict1, ↓u_setd, ↓u_look, ↓u_iVals, valsK_dcx, PSlot.obj.injEq, OV.dl.injEq, ↓u_frz, frz_own0, frz_val0, frz_no0, frz_obj0, frzS_lsts, frz_S, ↓u_gNm, ↓u_gTpT, ↓u_gTpL, ↓u_forN, ↓u_forC, ↓u_bin, ↓u_cons, ↓u_var0, ↓u_varS, ↓u_c, ↓u_tOf, ↓u_not, ↓u_and, ↓u_or, ↓u_andV, ↓u_orV, ↓u_notV, ↓u_ifE, ↓u_selC, ↓u_chain, ↓u_addI, ↓u_addT, ↓u_addL, ↓u_addG, ↓u_subI, ↓u_modI, ↓u_divI, ↓u_mulI, ↓u_mul2, ↓u_mul3, List.flatten_cons, List.flatten_nil, ↓u_ltI, ↓u_leI, ↓u_le2I, ↓w_le2G, ↓w_ltG, ↓u_gtI, ↓u_geI, ↓u_isN, ↓u_isNotN, ↓u_nil, ↓u_tup, ↓u_lst, ↓u_ixT, ↓u_ixL, ↓u_ixW0, ↓u_ixW1, ↓u_ixW2, ↓u_oNone, ↓u_oSome, ↓u_sl, ↓u_slT, ↓u_slL, ↓u_tru, ↓u_isi, ↓u_call, ↓u_fn1, ↓u_fnK, ↓u_abs, ↓u_min, ↓u_max, ↓u_boolI, ↓u_boolB, ↓u_rg1, ↓u_rg2, ↓u_lstRg, ↓u_tupRg, ↓u_iAny, ↓itemsL_one, ↓itemsK_tup, ↓itemsK_lst, ↓itemsK_gV, ↓itemsK_tV, ↓u_iRng1, ↓u_iRng2, ↓u_iEnum, ↓u_iZip, ↓u_comp, ↓u_take, ↓u_neS, ↓u_eqS, ↓pLen_tup, ↓pLen_lst, ↓pLen_tV, ↓pLen_gV, ↓pInt_int, ↓pInt_bl, ↓pTuple_tup, ↓pTuple_lst, ↓pList_tup, ↓pList_lst, sl_1, sl_2, sl_3, sl_4, sl_5, sl_6, sl_7, kind_non, kind_bl, kind_int, kind_str, kind_tup, kind_lst, kind_tV, kind_gV, truP_bl, truP_tup, truP_lst, truP_int, setsP, wipeP, atI_0, atI_1, atI_2, List.map_cons, List.map_nil, List.replicate_succ, List.replicate_zero, List.length_cons, List.length_nil, Nat.reduceSub, Nat.reduceAdd, Nat.zero_add, List.cons_append, List.nil_append, List.set_cons_succ, List.set_cons_zero, Option.some.injEq, PSlot.own.injEq, PSlot.obj.injEq, OV.lsts.injEq, exists_eq', exists_eq, List.getElem?_cons_succ, List.getElem?_cons_zero, exists_eq_left', exists_eq_left, true_and, and_true, pickL, if_true, if_false, Bool.false_eq_true, Bool.true_eq_false, Bool.not_true, Bool.not_false, decide_true, decide_false]
theorem w_law_parts {l : List Int} (hl : l.length ≤ 10) : pf__law_parts [.lst (l.map PV.int)] t P E = P (.lst ((partsI l).map gV)) t := by
  unfold pf__law_parts pb__law_parts
  simp only [↓u_body, ↓u_seq, ↓u_if, ↓u_ret, ↓u_retN, ↓u_drop, ↓u_pass, ↓u_cont, ↓u_brk, ↓u_set, ↓u_par, ↓u_asg, ↓u_for, ↓u_nxP, ↓u_own, ↓u_append, ↓u_extend, ↓u_put, ↓u_ownE, ↓u_par2, ↓u_par3, ↓onlyB_f, ↓onlyB_t, slotO_f, slotO_t, ↓u_view, ↓u_viewT, ↓u_owns, ↓u_forAdd, ↓u_dict0, ↓u_pDict0, ↓u_pDict1, ↓u_setd, ↓u_look, ↓u_iVals, valsK_dcx, PSlot.obj.injEq, OV.dl.injEq, ↓u_frz, frz_own0, frz_val0, frz_no0, frz_obj0, frzS_lsts, frz_S, ↓u_gNm, ↓u_gTpT, ↓u_gTpL, ↓u_forN, ↓u_forC, ↓u_bin, ↓u_cons, ↓u_var0, ↓u_varS, ↓u_c, ↓u_tOf, ↓u_not, ↓u_and, ↓u_or, ↓u_andV, ↓u_orV, ↓u_notV, ↓u_ifE, ↓u_selC, ↓u_chain, ↓u_addI, ↓u_addT, ↓u_addL, ↓u_addG, ↓u_subI, ↓u_modI, ↓u_divI, ↓u_mulI, ↓u_mul2, ↓u_mul3, List.flatten_cons, List.flatten_nil, ↓u_ltI, ↓u_leI, ↓u_le2I, ↓w_le2G, ↓w_ltG, ↓u_gtI, ↓u_geI, ↓u_isN, ↓u_isNotN, ↓u_nil, ↓u_tup, ↓u_lst, ↓u_ixT, ↓u_ixL, ↓u_ixW0, ↓u_ixW1, ↓u_ixW2, ↓u_oNone, ↓u_oSome, ↓u_sl, ↓u_slT, ↓u_slL, ↓u_tru, ↓u_isi, ↓u_call, ↓u_fn1, ↓u_fnK, ↓u_abs, ↓u_min, ↓u_max, ↓u_boolI, ↓u_boolB, ↓u_rg1, ↓u_rg2, ↓u_lstRg, ↓u_tupRg, ↓u_iAny, ↓itemsL_one, ↓itemsK_tup, ↓itemsK_lst, ↓itemsK_gV, ↓itemsK_tV, ↓u_iRng1, ↓u_iRng2, ↓u_iEnum, ↓u_iZip, ↓u_comp, ↓u_take, ↓u_neS, ↓u_eqS, ↓pLen_tup, ↓pLen_lst, ↓pLen_tV, ↓pLen_gV, ↓pInt_int, ↓pInt_bl, ↓pTuple_tup, ↓pTuple_lst, ↓pList_tup, ↓pList_lst, sl_1, sl_2, sl_3, sl_4, sl_5, sl_6, sl_7, kind_non, kind_bl, kind_int, kind_str, kind_tup, kind_lst, kind_tV, kind_gV, truP_bl, truP_tup, truP_lst, truP_int, setsP, wipeP, atI_0, atI_1, atI_2, List.map_cons, List.map_nil, List.replicate_succ, List.replicate_zero, List.length_cons, List.length_nil, Nat.reduceSub, Nat.reduceAdd, Nat.zero_add, List.cons_append, List.nil_append, List.set_cons_succ, List.set_cons_zero, Option.some.injEq, PSlot.own.injEq, PSlot.obj.injEq, OV.lsts.injEq, exists_eq', exists_eq, List.getElem?_cons_succ, List.getElem?_cons_zero, exists_eq_left', exists_eq_left, true_and, and_true, pickL, if_true, if_false, Bool.false_eq_true, Bool.true_eq_false, Bool.not_true, Bool.not_false, decide_true, decide_false]
  have L0 : [PV.tup []] = [([] : List Int)].map gV := rfl
  rw [L0, w_groups_loop (R := P (.lst ((partsI l).map gV)) t) rfl l [[]] .no hl (Nat.le_trans (Nat.mul_le_mul_left _ (Nat.pow_le_pow_right (by decide) hl)) (by decide)) (fun x hx => by
    rw [List.mem_singleton.mp hx]; simpa using hl) fun o => by simp only [↓w_sortL, ↓u_body, ↓u_seq, ↓u_if, ↓u_ret, ↓u_retN, ↓u_drop, ↓u_pass, ↓u_cont, ↓u_brk, ↓u_set, ↓u_par, ↓u_asg, ↓u_for, ↓u_nxP, ↓u_own, ↓u_append, ↓u_extend, ↓u_put, ↓u_ownE, ↓u_par2, ↓u_par3, ↓onlyB_f, ↓onlyB_t, slotO_f, slotO_t, ↓u_view, ↓u_viewT, ↓u_owns, ↓u_forAdd, ↓u_dict0, ↓u_pDict0, ↓u_pDict1, ↓u_setd, ↓u_look, ↓u_iVals, valsK_dcx, PSlot.obj.injEq, OV.dl.injEq, ↓u_frz, frz_own0, frz_val0, frz_no0, frz_obj0, frzS_lsts, frz_S, ↓u_gNm, ↓u_gTpT, ↓u_gTpL, ↓u_forN, ↓u_forC, ↓u_bin, ↓u_cons, ↓u_var0, ↓u_varS, ↓u_c, ↓u_tOf, ↓u_not, ↓u_and, ↓u_or, ↓u_andV, ↓u_orV, ↓u_notV, ↓u_ifE, ↓u_selC, ↓u_chain, ↓u_addI, ↓u_addT, ↓u_addL, ↓u_addG, ↓u_subI, ↓u_modI, ↓u_divI, ↓u_mulI, ↓u_mul2, ↓u_mul3, List.flatten_cons, List.flatten_nil, ↓u_ltI, ↓u_leI, ↓u_le2I, ↓w_le2G, ↓w_ltG, ↓u_gtI, ↓u_geI, ↓u_isN, ↓u_isNotN, ↓u_nil, ↓u_tup, ↓u_lst, ↓u_ixT, ↓u_ixL, ↓u_ixW0, ↓u_ixW1, ↓u_ixW2, ↓u_oNone, ↓u_oSome, ↓u_sl, ↓u_slT, ↓u_slL, ↓u_tru, ↓u_isi, ↓u_call, ↓u_fn1, ↓u_fnK, ↓u_abs, ↓u_min, ↓u_max, ↓u_boolI, ↓u_boolB, ↓u_rg1, ↓u_rg2, ↓u_lstRg, ↓u_tupRg, ↓u_iAny, ↓itemsL_one, ↓itemsK_tup, ↓itemsK_lst, ↓itemsK_gV, ↓itemsK_tV, ↓u_iRng1, ↓u_iRng2, ↓u_iEnum, ↓u_iZip, ↓u_comp, ↓u_take, ↓u_neS, ↓u_eqS, ↓pLen_tup, ↓pLen_lst, ↓pLen_tV, ↓pLen_gV, ↓pInt_int, ↓pInt_bl, ↓pTuple_tup, ↓pTuple_lst, ↓pList_tup, ↓pList_lst, sl_1, sl_2, sl_3, sl_4, sl_5, sl_6, sl_7, kind_non, kind_bl, kind_int, kind_str, kind_tup, kind_lst, kind_tV, kind_gV, truP_bl, truP_tup, truP_lst, truP_int, setsP, wipeP, atI_0, atI_1, atI_2, List.map_cons, List.map_nil, List.replicate_succ, List.replicate_zero, List.length_cons, List.length_nil, Nat.reduceSub, Nat.reduceAdd, Nat.zero_add, List.cons_append, List.nil_append, List.set_cons_succ, List.set_cons_zero, Option.some.injEq, PSlot.own.injEq, PSlot.obj.injEq, OV.lsts.injEq, exists_eq', exists_eq, List.getElem?_cons_succ, List.getElem?_cons_zero, exists_eq_left', exists_eq_left, true_and, and_true, pickL, if_true, if_false, Bool.false_eq_true, Bool.true_eq_false, Bool.not_true, Bool.not_false, decide_true, decide_false]; rfl]
  refine propext ⟨fun z => z.2, fun z => ⟨Nat.zero_le _, z⟩⟩
theorem w_law_partsG {l : List Int} (hl : l.length ≤ 10) : pf__law_parts [gV l] t P E = P (.lst ((partsI l).map gV)) t := by
  unfold pf__law_parts pb__law_parts
  simp only [↓u_body, ↓u_seq, ↓u_if, ↓u_ret, ↓u_retN, ↓u_drop, ↓u_pass, ↓u_cont, ↓u_brk, ↓u_set, ↓u_par, ↓u_asg, ↓u_for, ↓u_nxP, ↓u_own, ↓u_append, ↓u_extend, ↓u_put, ↓u_ownE, ↓u_par2, ↓u_par3, ↓onlyB_f, ↓onlyB_t, slotO_f, slotO_t, ↓u_view, ↓u_viewT, ↓u_owns, ↓u_forAdd, ↓u_dict0, ↓u_pDict0, ↓u_pDict1, ↓u_setd, ↓u_look, ↓u_iVals, valsK_dcx, PSlot.obj.injEq, OV.dl.injEq, ↓u_frz, frz_own0, frz_val0, frz_no0, frz_obj0, frzS_lsts, frz_S, ↓u_gNm, ↓u_gTpT, ↓u_gTpL, ↓u_forN, ↓u_forC, ↓u_bin, ↓u_cons, ↓u_var0, ↓u_varS, ↓u_c, ↓u_tOf, ↓u_not, ↓u_and, ↓u_or, ↓u_andV, ↓u_orV, ↓u_notV, ↓u_ifE, ↓u_selC, ↓u_chain, ↓u_addI, ↓u_addT, ↓u_addL, ↓u_addG, ↓u_subI, ↓u_modI, ↓u_divI, ↓u_mulI, ↓u_mul2, ↓u_mul3, List.flatten_cons, List.flatten_nil, ↓u_ltI, ↓u_leI, ↓u_le2I, ↓w_le2G, ↓w_ltG, ↓u_gtI, ↓u_geI, ↓u_isN, ↓u_isNotN, ↓u_nil, ↓u_tup, ↓u_lst, ↓u_ixT, ↓u_ixL, ↓u_ixW0, ↓u_ixW1, ↓u_ixW2, ↓u_oNone, ↓u_oSome, ↓u_sl, ↓u_slT, ↓u_slL, ↓u_tru, ↓u_isi, ↓u_call, ↓u_fn1, ↓u_fnK, ↓u_abs, ↓u_min, ↓u_max, ↓u_boolI, ↓u_boolB, ↓u_rg1, ↓u_rg2, ↓u_lstRg, ↓u_tupRg, ↓u_iAny, ↓itemsL_one, ↓itemsK_tup, ↓itemsK_lst, ↓itemsK_gV, ↓itemsK_tV, ↓u_iRng1, ↓u_iRng2, ↓u_iEnum, ↓u_iZip, ↓u_comp, ↓u_take, ↓u_neS, ↓u_eqS, ↓pLen_tup, ↓pLen_lst, ↓pLen_tV, ↓pLen_gV, ↓pInt_int, ↓pInt_bl, ↓pTuple_tup, ↓pTuple_lst, ↓pList_tup, ↓pList_lst, sl_1, sl_2, sl_3, sl_4, sl_5, sl_6, sl_7, kind_non, kind_bl, kind_int, kind_str, kind_tup, kind_lst, kind_tV, kind_gV, truP_bl, truP_tup, truP_lst, truP_int, setsP, wipeP, atI_0, atI_1, atI_2, List.map_cons, List.map_nil, List.replicate_succ, List.replicate_zero, List.length_cons, List.length_nil, Nat.reduceSub, Nat.reduceAdd, Nat.zero_add, List.cons_append, List.nil_append, List.set_cons_succ, List.set_cons_zero, Option.some.injEq, PSlot.own.injEq, PSlot.obj.injEq, OV.lsts.injEq, exists_eq', exists_eq, List.getElem?_cons_succ, List.getElem?_cons_zero, exists_eq_left', exists_eq_left, true_and, and_true, pickL, if_true, if_false, Bool.false_eq_true, Bool.true_eq_false, Bool.not_true, Bool.not_false, decide_true, decide_false]
  have L0 : [PV.tup []] = [([] : List Int)].map gV := rfl
  rw [L0, w_groups_loop (R := P (.lst ((partsI l).map gV)) t) rfl l [[]] .no hl (Nat.le_trans (Nat.mul_le_mul_left _ (Nat.pow_le_pow_right (by decide) hl)) (by decide)) (fun x hx => by
    rw [List.mem_singleton.mp hx]; simpa using hl) fun o => by simp only [↓w_sortL, ↓u_body, ↓u_seq, ↓u_if, ↓u_ret, ↓u_retN, ↓u_drop, ↓u_pass, ↓u_cont, ↓u_brk, ↓u_set, ↓u_par, ↓u_asg, ↓u_for, ↓u_nxP, ↓u_own, ↓u_append, ↓u_extend, ↓u_put, ↓u_ownE, ↓u_par2, ↓u_par3, ↓onlyB_f, ↓onlyB_t, slotO_f, slotO_t, ↓u_view, ↓u_viewT, ↓u_owns, ↓u_forAdd, ↓u_dict0, ↓u_pDict0, ↓u_pDict1, ↓u_setd, ↓u_look, ↓u_iVals, valsK_dcx, PSlot.obj.injEq, OV.dl.injEq, ↓u_frz, frz_own0, frz_val0, frz_no0, frz_obj0, frzS_lsts, frz_S, ↓u_gNm, ↓u_gTpT, ↓u_gTpL, ↓u_forN, ↓u_forC, ↓u_bin, ↓u_cons, ↓u_var0, ↓u_varS, ↓u_c, ↓u_tOf, ↓u_not, ↓u_and, ↓u_or, ↓u_andV, ↓u_orV, ↓u_notV, ↓u_ifE, ↓u_selC, ↓u_chain, ↓u_addI, ↓u_addT, ↓u_addL, ↓u_addG, ↓u_subI, ↓u_modI, ↓u_divI, ↓u_mulI, ↓u_mul2, ↓u_mul3, List.flatten_cons, List.flatten_nil, ↓u_ltI, ↓u_leI, ↓u_le2I, ↓w_le2G, ↓w_ltG, ↓u_gtI, ↓u_geI, ↓u_isN, ↓u_isNotN, ↓u_nil, ↓u_tup, ↓u_lst, ↓u_ixT, ↓u_ixL, ↓u_ixW0, ↓u_ixW1, ↓u_ixW2, ↓u_oNone, ↓u_oSome, ↓u_sl, ↓u_slT, ↓u_slL, ↓u_tru, ↓u_isi, ↓u_call, ↓u_fn1, ↓u_fnK, ↓u_abs, ↓u_min, ↓u_max, ↓u_boolI, ↓u_boolB, ↓u_rg1, ↓u_rg2, ↓u_lstRg, ↓u_tupRg, ↓u_iAny, ↓itemsL_one, ↓itemsK_tup, ↓itemsK_lst, ↓itemsK_gV, ↓itemsK_tV, ↓u_iRng1, ↓u_iRng2, ↓u_iEnum, ↓u_iZip, ↓u_comp, ↓u_take, ↓u_neS, ↓u_eqS, ↓pLen_tup, ↓pLen_lst, ↓pLen_tV, ↓pLen_gV, ↓pInt_int, ↓pInt_bl, ↓pTuple_tup, ↓pTuple_lst, ↓pList_tup, ↓pList_lst, sl_1, sl_2, sl_3, sl_4, sl_5, sl_6, sl_7, kind_non, kind_bl, kind_int, kind_str, kind_tup, kind_lst, kind_tV, kind_gV, truP_bl, truP_tup, truP_lst, truP_int, setsP, wipeP, atI_0, atI_1, atI_2, List.map_cons, List.map_nil, List.replicate_succ, List.replicate_zero, List.length_cons, List.length_nil, Nat.reduceSub, Nat.reduceAdd, Nat.zero_add, List.cons_append, List.nil_append, List.set_cons_succ, List.set_cons_zero, Option.some.injEq, PSlot.own.injEq, PSlot.obj.injEq, OV.lsts.injEq, exists_eq', exists_eq, List.getElem?_cons_succ, List.getElem?_cons_zero, exists_eq_left', exists_eq_left, true_and, and_true, pickL, if_true, if_false, Bool.false_eq_true, Bool.true_eq_false, Bool.not_true, Bool.not_false, decide_true, decide_false]; rfl]
  refine propext ⟨fun z => z.2, fun z => ⟨Nat.zero_le _, z⟩⟩
theorem w_law_groups {h : Nat} (hh : h ≤ 10) : pf__law_groups [.int h] t P E = P (.lst ((partsI (upto h)).map gV)) t := by
  have e : ((h : Int) - 0).toNat = h := by omega
  have rg : RgOk 0 (h : Int) := by unfold RgOk; omega
  unfold pf__law_groups pb__law_groups
  simp only [↓rg, ↓e, ↓rangeP_upto, ↓w_law_parts (show (upto h).length ≤ 10 by rw [upto_len]; exact hh), ↓u_body, ↓u_seq, ↓u_if, ↓u_ret, ↓u_retN, ↓u_drop, ↓u_pass, ↓u_cont, ↓u_brk, ↓u_set, ↓u_par, ↓u_asg, ↓u_for, ↓u_nxP, ↓u_own, ↓u_append, ↓u_extend, ↓u_put, ↓u_ownE, ↓u_par2, ↓u_par3, ↓onlyB_f, ↓onlyB_t, slotO_f, slotO_t, ↓u_view, ↓u_viewT, ↓u_owns, ↓u_forAdd, ↓u_dict0, ↓u_pDict0, ↓u_pDict1, ↓u_setd, ↓u_look, ↓u_iVals, valsK_dcx, PSlot.obj.injEq, OV.dl.injEq, ↓u_frz, frz_own0, frz_val0, frz_no0, frz_obj0, frzS_lsts, frz_S, ↓u_gNm, ↓u_gTpT, ↓u_gTpL, ↓u_forN, ↓u_forC, ↓u_bin, ↓u_cons, ↓u_var0, ↓u_varS, ↓u_c, ↓u_tOf, ↓u_not, ↓u_and, ↓u_or, ↓u_andV, ↓u_orV, ↓u_notV, ↓u_ifE, ↓u_selC, ↓u_chain, ↓u_addI, ↓u_addT, ↓u_addL, ↓u_addG, ↓u_subI, ↓u_modI, ↓u_divI, ↓u_mulI, ↓u_mul2, ↓u_mul3, List.flatten_cons, List.flatten_nil, ↓u_ltI, ↓u_leI, ↓u_le2I, ↓w_le2G, ↓w_ltG, ↓u_gtI, ↓u_geI, ↓u_isN, ↓u_isNotN, ↓u_nil, ↓u_tup, ↓u_lst, ↓u_ixT, ↓u_ixL, ↓u_ixW0, ↓u_ixW1, ↓u_ixW2, ↓u_oNone, ↓u_oSome, ↓u_sl, ↓u_slT, ↓u_slL, ↓u_tru, ↓u_isi, ↓u_call, ↓u_fn1, ↓u_fnK, ↓u_abs, ↓u_min, ↓u_max, ↓u_boolI, ↓u_boolB, ↓u_rg1, ↓u_rg2, ↓u_lstRg, ↓u_tupRg, ↓u_iAny, ↓itemsL_one, ↓itemsK_tup, ↓itemsK_lst, ↓itemsK_gV, ↓itemsK_tV, ↓u_iRng1, ↓u_iRng2, ↓u_iEnum, ↓u_iZip, ↓u_comp, ↓u_take, ↓u_neS, ↓u_eqS, ↓pLen_tup, ↓pLen_lst, ↓pLen_tV, ↓pLen_gV, ↓pInt_int, ↓pInt_bl, ↓pTuple_tup, ↓pTuple_lst, ↓pList_tup, ↓pList_lst, sl_1, sl_2, sl_3, sl_4, sl_5, sl_6, sl_7, kind_non, kind_bl, kind_int, kind_str, kind_tup, kind_lst, kind_tV, kind_gV, truP_bl, truP_tup, truP_lst, truP_int, setsP, wipeP, atI_0, atI_1, atI_2, List.map_cons, List.map_nil, List.replicate_succ, List.replicate_zero, List.length_cons, List.length_nil, Nat.reduceSub, Nat.reduceAdd, Nat.zero_add, List.cons_append, List.nil_append, List.set_cons_succ, List.set_cons_zero, Option.some.injEq, PSlot.own.injEq, PSlot.obj.injEq, OV.lsts.injEq, exists_eq', exists_eq, List.getElem?_cons_succ, List.getElem?_cons_zero, exists_eq_left', exists_eq_left, true_and, and_true, pickL, if_true, if_false, Bool.false_eq_true, Bool.true_eq_false, Bool.not_true, Bool.not_false, decide_true, decide_false]
theorem w_law_pick {xs : List PV} (ht : t < 900000000000) (hx : xs ≠ []) (hl : xs.length ≤ 100000) (h : ∀ v ∈ xs, P v (t + 1)) : pf__law_pick [.deck, .lst xs] t P E := by
  have hp : 0 < xs.length := List.length_pos_iff.mpr hx
  unfold pf__law_pick pb__law_pick
  simp only [↓pf__law_take, ↓u_body, ↓u_seq, ↓u_if, ↓u_ret, ↓u_retN, ↓u_drop, ↓u_pass, ↓u_cont, ↓u_brk, ↓u_set, ↓u_par, ↓u_asg, ↓u_for, ↓u_nxP, ↓u_own, ↓u_append, ↓u_extend, ↓u_put, ↓u_ownE, ↓u_par2, ↓u_par3, ↓onlyB_f, ↓onlyB_t, slotO_f, slotO_t, ↓u_view, ↓u_viewT, ↓u_owns, ↓u_forAdd, ↓u_dict0, ↓u_pDict0, ↓u_pDict1, ↓u_setd, ↓u_look, ↓u_iVals, valsK_dcx, PSlot.obj.injEq, OV.dl.injEq, ↓u_frz, frz_own0, frz_val0, frz_no0, frz_obj0, frzS_lsts, frz_S, ↓u_gNm, ↓u_gTpT, ↓u_gTpL, ↓u_forN, ↓u_forC, ↓u_bin, ↓u_cons, ↓u_var0, ↓u_varS, ↓u_c, ↓u_tOf, ↓u_not, ↓u_and, ↓u_or, ↓u_andV, ↓u_orV, ↓u_notV, ↓u_ifE, ↓u_selC, ↓u_chain, ↓u_addI, ↓u_addT, ↓u_addL, ↓u_addG, ↓u_subI, ↓u_modI, ↓u_divI, ↓u_mulI, ↓u_mul2, ↓u_mul3, List.flatten_cons, List.flatten_nil, ↓u_ltI, ↓u_leI, ↓u_le2I, ↓w_le2G, ↓w_ltG, ↓u_gtI, ↓u_geI, ↓u_isN, ↓u_isNotN, ↓u_nil, ↓u_tup, ↓u_lst, ↓u_ixT, ↓u_ixL, ↓u_ixW0, ↓u_ixW1, ↓u_ixW2, ↓u_oNone, ↓u_oSome, ↓u_sl, ↓u_slT, ↓u_slL, ↓u_tru, ↓u_isi, ↓u_call, ↓u_fn1, ↓u_fnK, ↓u_abs, ↓u_min, ↓u_max, ↓u_boolI, ↓u_boolB, ↓u_rg1, ↓u_rg2, ↓u_lstRg, ↓u_tupRg, ↓u_iAny, ↓itemsL_one, ↓itemsK_tup, ↓itemsK_lst, ↓itemsK_gV, ↓itemsK_tV, ↓u_iRng1, ↓u_iRng2, ↓u_iEnum, ↓u_iZip, ↓u_comp, ↓u_take, ↓u_neS, ↓u_eqS, ↓pLen_tup, ↓pLen_lst, ↓pLen_tV, ↓pLen_gV, ↓pInt_int, ↓pInt_bl, ↓pTuple_tup, ↓pTuple_lst, ↓pList_tup, ↓pList_lst, sl_1, sl_2, sl_3, sl_4, sl_5, sl_6, sl_7, kind_non, kind_bl, kind_int, kind_str, kind_tup, kind_lst, kind_tV, kind_gV, truP_bl, truP_tup, truP_lst, truP_int, setsP, wipeP, atI_0, atI_1, atI_2, List.map_cons, List.map_nil, List.replicate_succ, List.replicate_zero, List.length_cons, List.length_nil, Nat.reduceSub, Nat.reduceAdd, Nat.zero_add, List.cons_append, List.nil_append, List.set_cons_succ, List.set_cons_zero, Option.some.injEq, PSlot.own.injEq, PSlot.obj.injEq, OV.lsts.injEq, exists_eq', exists_eq, List.getElem?_cons_succ, List.getElem?_cons_zero, exists_eq_left', exists_eq_left, true_and, and_true, pickL, if_true, if_false, Bool.false_eq_true, Bool.true_eq_false, Bool.not_true, Bool.not_false, decide_true, decide_false]
  refine ⟨⟨by omega, by omega, by omega⟩, fun i h0 h1 => ?_⟩
  obtain ⟨j, rfl⟩ : ∃ j : Nat, i = j := ⟨i.toNat, by omega⟩
  have hj : j < xs.length := by omega
  exact ⟨_, atI_nat hj, h _ (List.getElem_mem hj)⟩
theorem w_law_group {h : Nat} (hh : h ≤ 10) (ht : t < 900000000000) (hP : ∀ g ∈ partsI (upto h), P (gV g) (t + 1)) : pf__law_group [.deck, .int h] t P E := by
  have hl := parts_le hh
  unfold pf__law_group pb__law_group
  simp only [↓w_law_groups hh, ↓u_body, ↓u_seq, ↓u_if, ↓u_ret, ↓u_retN, ↓u_drop, ↓u_pass, ↓u_cont, ↓u_brk, ↓u_set, ↓u_par, ↓u_asg, ↓u_for, ↓u_nxP, ↓u_own, ↓u_append, ↓u_extend, ↓u_put, ↓u_ownE, ↓u_par2, ↓u_par3, ↓onlyB_f, ↓onlyB_t, slotO_f, slotO_t, ↓u_view, ↓u_viewT, ↓u_owns, ↓u_forAdd, ↓u_dict0, ↓u_pDict0, ↓u_pDict1, ↓u_setd, ↓u_look, ↓u_iVals, valsK_dcx, PSlot.obj.injEq, OV.dl.injEq, ↓u_frz, frz_own0, frz_val0, frz_no0, frz_obj0, frzS_lsts, frz_S, ↓u_gNm, ↓u_gTpT, ↓u_gTpL, ↓u_forN, ↓u_forC, ↓u_bin, ↓u_cons, ↓u_var0, ↓u_varS, ↓u_c, ↓u_tOf, ↓u_not, ↓u_and, ↓u_or, ↓u_andV, ↓u_orV, ↓u_notV, ↓u_ifE, ↓u_selC, ↓u_chain, ↓u_addI, ↓u_addT, ↓u_addL, ↓u_addG, ↓u_subI, ↓u_modI, ↓u_divI, ↓u_mulI, ↓u_mul2, ↓u_mul3, List.flatten_cons, List.flatten_nil, ↓u_ltI, ↓u_leI, ↓u_le2I, ↓w_le2G, ↓w_ltG, ↓u_gtI, ↓u_geI, ↓u_isN, ↓u_isNotN, ↓u_nil, ↓u_tup, ↓u_lst, ↓u_ixT, ↓u_ixL, ↓u_ixW0, ↓u_ixW1, ↓u_ixW2, ↓u_oNone, ↓u_oSome, ↓u_sl, ↓u_slT, ↓u_slL, ↓u_tru, ↓u_isi, ↓u_call, ↓u_fn1, ↓u_fnK, ↓u_abs, ↓u_min, ↓u_max, ↓u_boolI, ↓u_boolB, ↓u_rg1, ↓u_rg2, ↓u_lstRg, ↓u_tupRg, ↓u_iAny, ↓itemsL_one, ↓itemsK_tup, ↓itemsK_lst, ↓itemsK_gV, ↓itemsK_tV, ↓u_iRng1, ↓u_iRng2, ↓u_iEnum, ↓u_iZip, ↓u_comp, ↓u_take, ↓u_neS, ↓u_eqS, ↓pLen_tup, ↓pLen_lst, ↓pLen_tV, ↓pLen_gV, ↓pInt_int, ↓pInt_bl, ↓pTuple_tup, ↓pTuple_lst, ↓pList_tup, ↓pList_lst, sl_1, sl_2, sl_3, sl_4, sl_5, sl_6, sl_7, kind_non, kind_bl, kind_int, kind_str, kind_tup, kind_lst, kind_tV, kind_gV, truP_bl, truP_tup, truP_lst, truP_int, setsP, wipeP, atI_0, atI_1, atI_2, List.map_cons, List.map_nil, List.replicate_succ, List.replicate_zero, List.length_cons, List.length_nil, Nat.reduceSub, Nat.reduceAdd, Nat.zero_add, List.cons_append, List.nil_append, List.set_cons_succ, List.set_cons_zero, Option.some.injEq, PSlot.own.injEq, PSlot.obj.injEq, OV.lsts.injEq, exists_eq', exists_eq, List.getElem?_cons_succ, List.getElem?_cons_zero, exists_eq_left', exists_eq_left, true_and, and_true, pickL, if_true, if_false, Bool.false_eq_true, Bool.true_eq_false, Bool.not_true, Bool.not_false, decide_true, decide_false]
  refine w_law_pick ht (by simpa using parts_ne h) (by simp; omega) fun v hv => ?_
  obtain ⟨g, hg, rfl⟩ := List.mem_map.mp hv
  exact hP g hg
theorem w_law_odd (ht : t < 900000000000) (hP : ∀ v ∈ oddVals, P v (t + 1)) : pf__law_odd [.deck] t P E := by
  unfold pf__law_odd pb__law_odd
  simp only [↓u_neg, ↓u_powI, ↓u_body, ↓u_seq, ↓u_if, ↓u_ret, ↓u_retN, ↓u_drop, ↓u_pass, ↓u_cont, ↓u_brk, ↓u_set, ↓u_par, ↓u_asg, ↓u_for, ↓u_nxP, ↓u_own, ↓u_append, ↓u_extend, ↓u_put, ↓u_ownE, ↓u_par2, ↓u_par3, ↓onlyB_f, ↓onlyB_t, slotO_f, slotO_t, ↓u_view, ↓u_viewT, ↓u_owns, ↓u_forAdd, ↓u_dict0, ↓u_pDict0, ↓u_pDict1, ↓u_setd, ↓u_look, ↓u_iVals, valsK_dcx, PSlot.obj.injEq, OV.dl.injEq, ↓u_frz, frz_own0, frz_val0, frz_no0, frz_obj0, frzS_lsts, frz_S, ↓u_gNm, ↓u_gTpT, ↓u_gTpL, ↓u_forN, ↓u_forC, ↓u_bin, ↓u_cons, ↓u_var0, ↓u_varS, ↓u_c, ↓u_tOf, ↓u_not, ↓u_and, ↓u_or, ↓u_andV, ↓u_orV, ↓u_notV, ↓u_ifE, ↓u_selC, ↓u_chain, ↓u_addI, ↓u_addT, ↓u_addL, ↓u_addG, ↓u_subI, ↓u_modI, ↓u_divI, ↓u_mulI, ↓u_mul2, ↓u_mul3, List.flatten_cons, List.flatten_nil, ↓u_ltI, ↓u_leI, ↓u_le2I, ↓w_le2G, ↓w_ltG, ↓u_gtI, ↓u_geI, ↓u_isN, ↓u_isNotN, ↓u_nil, ↓u_tup, ↓u_lst, ↓u_ixT, ↓u_ixL, ↓u_ixW0, ↓u_ixW1, ↓u_ixW2, ↓u_oNone, ↓u_oSome, ↓u_sl, ↓u_slT, ↓u_slL, ↓u_tru, ↓u_isi, ↓u_call, ↓u_fn1, ↓u_fnK, ↓u_abs, ↓u_min, ↓u_max, ↓u_boolI, ↓u_boolB, ↓u_rg1, ↓u_rg2, ↓u_lstRg, ↓u_tupRg, ↓u_iAny, ↓itemsL_one, ↓itemsK_tup, ↓itemsK_lst, ↓itemsK_gV, ↓itemsK_tV, ↓u_iRng1, ↓u_iRng2, ↓u_iEnum, ↓u_iZip, ↓u_comp, ↓u_take, ↓u_neS, ↓u_eqS, ↓pLen_tup, ↓pLen_lst, ↓pLen_tV, ↓pLen_gV, ↓pInt_int, ↓pInt_bl, ↓pTuple_tup, ↓pTuple_lst, ↓pList_tup, ↓pList_lst, sl_1, sl_2, sl_3, sl_4, sl_5, sl_6, sl_7, kind_non, kind_bl, kind_int, kind_str, kind_tup, kind_lst, kind_tV, kind_gV, truP_bl, truP_tup, truP_lst, truP_int, setsP, wipeP, atI_0, atI_1, atI_2, List.map_cons, List.map_nil, List.replicate_succ, List.replicate_zero, List.length_cons, List.length_nil, Nat.reduceSub, Nat.reduceAdd, Nat.zero_add, List.cons_append, List.nil_append, List.set_cons_succ, List.set_cons_zero, Option.some.injEq, PSlot.own.injEq, PSlot.obj.injEq, OV.lsts.injEq, exists_eq', exists_eq, List.getElem?_cons_succ, List.getElem?_cons_zero, exists_eq_left', exists_eq_left, true_and, and_true, pickL, if_true, if_false, Bool.false_eq_true, Bool.true_eq_false, Bool.not_true, Bool.not_false, decide_true, decide_false]
  simp only [sl_eq, Nat.reduceLeDiff, true_and, Nat.zero_le, List.length_cons, List.length_nil, Nat.reduceAdd]
  refine ⟨⟨by decide, by decide, by decide⟩, ?_⟩
  refine w_law_pick ht (by simp) (by simp) fun v hv => hP v ?_
  exact hv
theorem bent_shw {h : Nat} (h5 : h ≤ 5) {g : List Int} (hg : GrpI h g) {a b : List PV} (ha : ∀ v ∈ a, Shw 0 100 v) (hb : ∀ v ∈ b, Shw 0 100 v) (la : a.length ≤ 2) (lb : b.length ≤ 2) : Shw 3 1000 (.tup (a ++ g.map PV.int ++ b)) := by
  have sg := gs_small h5 hg
  refine (shw_tup (k := 0) (w := 100) (n := 9) (fun v hv => ?_) (by simp; omega)).weak (by omega) (by omega)
  rcases List.mem_append.mp hv with hv | hv
  · rcases List.mem_append.mp hv with hv | hv
    · exact ha v hv
    · obtain ⟨x, hx, rfl⟩ := List.mem_map.mp hv
      have := sg.2 x hx
      exact (nice_int (by omega)).shw.weak (Nat.le_refl _) (by omega)
  · exact hb v hv
theorem w_law_bent_group {h : Nat} (h5 : h ≤ 5) {g : List Int} (hg : GrpI h g) (ht : t < 800000000000) (hP : ∀ v t', t ≤ t' → t' ≤ t + 2 → Shw 3 1000 v → P v t') : pf__law_bent_group [.deck, gV g] t P E := by
  have sg := gs_small h5 hg
  have gl : (g.map PV.int).length ≤ 5 := by rw [List.length_map]; exact sg.1
  unfold pf__law_bent_group pb__law_bent_group gV
  simp only [↓u_neg, ↓u_revT, ↓cut_from1, ↓u_body, ↓u_seq, ↓u_if, ↓u_ret, ↓u_retN, ↓u_drop, ↓u_pass, ↓u_cont, ↓u_brk, ↓u_set, ↓u_par, ↓u_asg, ↓u_for, ↓u_nxP, ↓u_own, ↓u_append, ↓u_extend, ↓u_put, ↓u_ownE, ↓u_par2, ↓u_par3, ↓onlyB_f, ↓onlyB_t, slotO_f, slotO_t, ↓u_view, ↓u_viewT, ↓u_owns, ↓u_forAdd, ↓u_dict0, ↓u_pDict0, ↓u_pDict1, ↓u_setd, ↓u_look, ↓u_iVals, valsK_dcx, PSlot.obj.injEq, OV.dl.injEq, ↓u_frz, frz_own0, frz_val0, frz_no0, frz_obj0, frzS_lsts, frz_S, ↓u_gNm, ↓u_gTpT, ↓u_gTpL, ↓u_forN, ↓u_forC, ↓u_bin, ↓u_cons, ↓u_var0, ↓u_varS, ↓u_c, ↓u_tOf, ↓u_not, ↓u_and, ↓u_or, ↓u_andV, ↓u_orV, ↓u_notV, ↓u_ifE, ↓u_selC, ↓u_chain, ↓u_addI, ↓u_addT, ↓u_addL, ↓u_addG, ↓u_subI, ↓u_modI, ↓u_divI, ↓u_mulI, ↓u_mul2, ↓u_mul3, List.flatten_cons, List.flatten_nil, ↓u_ltI, ↓u_leI, ↓u_le2I, ↓w_le2G, ↓w_ltG, ↓u_gtI, ↓u_geI, ↓u_isN, ↓u_isNotN, ↓u_nil, ↓u_tup, ↓u_lst, ↓u_ixT, ↓u_ixL, ↓u_ixW0, ↓u_ixW1, ↓u_ixW2, ↓u_oNone, ↓u_oSome, ↓u_sl, ↓u_slT, ↓u_slL, ↓u_tru, ↓u_isi, ↓u_call, ↓u_fn1, ↓u_fnK, ↓u_abs, ↓u_min, ↓u_max, ↓u_boolI, ↓u_boolB, ↓u_rg1, ↓u_rg2, ↓u_lstRg, ↓u_tupRg, ↓u_iAny, ↓itemsL_one, ↓itemsK_tup, ↓itemsK_lst, ↓itemsK_gV, ↓itemsK_tV, ↓u_iRng1, ↓u_iRng2, ↓u_iEnum, ↓u_iZip, ↓u_comp, ↓u_take, ↓u_neS, ↓u_eqS, ↓pLen_tup, ↓pLen_lst, ↓pLen_tV, ↓pLen_gV, ↓pInt_int, ↓pInt_bl, ↓pTuple_tup, ↓pTuple_lst, ↓pList_tup, ↓pList_lst, sl_1, sl_2, sl_3, sl_4, sl_5, sl_6, sl_7, kind_non, kind_bl, kind_int, kind_str, kind_tup, kind_lst, kind_tV, kind_gV, truP_bl, truP_tup, truP_lst, truP_int, setsP, wipeP, atI_0, atI_1, atI_2, List.map_cons, List.map_nil, List.replicate_succ, List.replicate_zero, List.length_cons, List.length_nil, Nat.reduceSub, Nat.reduceAdd, Nat.zero_add, List.cons_append, List.nil_append, List.set_cons_succ, List.set_cons_zero, Option.some.injEq, PSlot.own.injEq, PSlot.obj.injEq, OV.lsts.injEq, exists_eq', exists_eq, List.getElem?_cons_succ, List.getElem?_cons_zero, exists_eq_left', exists_eq_left, true_and, and_true, pickL, if_true, if_false, Bool.false_eq_true, Bool.true_eq_false, Bool.not_true, Bool.not_false, decide_true, decide_false]
  rw [comp_map PV.int (fun x => if x < 2 then PV.bl (x != 0) else .int x) g (sl_le (by omega)) fun x hx t K => by
    simp only [↓u_body, ↓u_seq, ↓u_if, ↓u_ret, ↓u_retN, ↓u_drop, ↓u_pass, ↓u_cont, ↓u_brk, ↓u_set, ↓u_par, ↓u_asg, ↓u_for, ↓u_nxP, ↓u_own, ↓u_append, ↓u_extend, ↓u_put, ↓u_ownE, ↓u_par2, ↓u_par3, ↓onlyB_f, ↓onlyB_t, slotO_f, slotO_t, ↓u_view, ↓u_viewT, ↓u_owns, ↓u_forAdd, ↓u_dict0, ↓u_pDict0, ↓u_pDict1, ↓u_setd, ↓u_look, ↓u_iVals, valsK_dcx, PSlot.obj.injEq, OV.dl.injEq, ↓u_frz, frz_own0, frz_val0, frz_no0, frz_obj0, frzS_lsts, frz_S, ↓u_gNm, ↓u_gTpT, ↓u_gTpL, ↓u_forN, ↓u_forC, ↓u_bin, ↓u_cons, ↓u_var0, ↓u_varS, ↓u_c, ↓u_tOf, ↓u_not, ↓u_and, ↓u_or, ↓u_andV, ↓u_orV, ↓u_notV, ↓u_ifE, ↓u_selC, ↓u_chain, ↓u_addI, ↓u_addT, ↓u_addL, ↓u_addG, ↓u_subI, ↓u_modI, ↓u_divI, ↓u_mulI, ↓u_mul2, ↓u_mul3, List.flatten_cons, List.flatten_nil, ↓u_ltI, ↓u_leI, ↓u_le2I, ↓w_le2G, ↓w_ltG, ↓u_gtI, ↓u_geI, ↓u_isN, ↓u_isNotN, ↓u_nil, ↓u_tup, ↓u_lst, ↓u_ixT, ↓u_ixL, ↓u_ixW0, ↓u_ixW1, ↓u_ixW2, ↓u_oNone, ↓u_oSome, ↓u_sl, ↓u_slT, ↓u_slL, ↓u_tru, ↓u_isi, ↓u_call, ↓u_fn1, ↓u_fnK, ↓u_abs, ↓u_min, ↓u_max, ↓u_boolI, ↓u_boolB, ↓u_rg1, ↓u_rg2, ↓u_lstRg, ↓u_tupRg, ↓u_iAny, ↓itemsL_one, ↓itemsK_tup, ↓itemsK_lst, ↓itemsK_gV, ↓itemsK_tV, ↓u_iRng1, ↓u_iRng2, ↓u_iEnum, ↓u_iZip, ↓u_comp, ↓u_take, ↓u_neS, ↓u_eqS, ↓pLen_tup, ↓pLen_lst, ↓pLen_tV, ↓pLen_gV, ↓pInt_int, ↓pInt_bl, ↓pTuple_tup, ↓pTuple_lst, ↓pList_tup, ↓pList_lst, sl_1, sl_2, sl_3, sl_4, sl_5, sl_6, sl_7, kind_non, kind_bl, kind_int, kind_str, kind_tup, kind_lst, kind_tV, kind_gV, truP_bl, truP_tup, truP_lst, truP_int, setsP, wipeP, atI_0, atI_1, atI_2, List.map_cons, List.map_nil, List.replicate_succ, List.replicate_zero, List.length_cons, List.length_nil, Nat.reduceSub, Nat.reduceAdd, Nat.zero_add, List.cons_append, List.nil_append, List.set_cons_succ, List.set_cons_zero, Option.some.injEq, PSlot.own.injEq, PSlot.obj.injEq, OV.lsts.injEq, exists_eq', exists_eq, List.getElem?_cons_succ, List.getElem?_cons_zero, exists_eq_left', exists_eq_left, true_and, and_true, pickL, if_true, if_false, Bool.false_eq_true, Bool.true_eq_false, Bool.not_true, Bool.not_false, decide_true, decide_false]
    by_cases hx2 : x < 2
    · simp only [↓show decide (x < 2) = true from by simpa using hx2, ↓hx2, ↓u_body, ↓u_seq, ↓u_if, ↓u_ret, ↓u_retN, ↓u_drop, ↓u_pass, ↓u_cont, ↓u_brk, ↓u_set, ↓u_par, ↓u_asg, ↓u_for, ↓u_nxP, ↓u_own, ↓u_append, ↓u_extend, ↓u_put, ↓u_ownE, ↓u_par2, ↓u_par3, ↓onlyB_f, ↓onlyB_t, slotO_f, slotO_t, ↓u_view, ↓u_viewT, ↓u_owns, ↓u_forAdd, ↓u_dict0, ↓u_pDict0, ↓u_pDict1, ↓u_setd, ↓u_look, ↓u_iVals, valsK_dcx, PSlot.obj.injEq, OV.dl.injEq, ↓u_frz, frz_own0, frz_val0, frz_no0, frz_obj0, frzS_lsts, frz_S, ↓u_gNm, ↓u_gTpT, ↓u_gTpL, ↓u_forN, ↓u_forC, ↓u_bin, ↓u_cons, ↓u_var0, ↓u_varS, ↓u_c, ↓u_tOf, ↓u_not, ↓u_and, ↓u_or, ↓u_andV, ↓u_orV, ↓u_notV, ↓u_ifE, ↓u_selC, ↓u_chain, ↓u_addI, ↓u_addT, ↓u_addL, ↓u_addG, ↓u_subI, ↓u_modI, ↓u_divI, ↓u_mulI, ↓u_mul2, ↓u_mul3, List.flatten_cons, List.flatten_nil, ↓u_ltI, ↓u_leI, ↓u_le2I, ↓w_le2G, ↓w_ltG, ↓u_gtI, ↓u_geI, ↓u_isN, ↓u_isNotN, ↓u_nil, ↓u_tup, ↓u_lst, ↓u_ixT, ↓u_ixL, ↓u_ixW0, ↓u_ixW1, ↓u_ixW2, ↓u_oNone, ↓u_oSome, ↓u_sl, ↓u_slT, ↓u_slL, ↓u_tru, ↓u_isi, ↓u_call, ↓u_fn1, ↓u_fnK, ↓u_abs, ↓u_min, ↓u_max, ↓u_boolI, ↓u_boolB, ↓u_rg1, ↓u_rg2, ↓u_lstRg, ↓u_tupRg, ↓u_iAny, ↓itemsL_one, ↓itemsK_tup, ↓itemsK_lst, ↓itemsK_gV, ↓itemsK_tV, ↓u_iRng1, ↓u_iRng2, ↓u_iEnum, ↓u_iZip, ↓u_comp, ↓u_take, ↓u_neS, ↓u_eqS, ↓pLen_tup, ↓pLen_lst, ↓pLen_tV, ↓pLen_gV, ↓pInt_int, ↓pInt_bl, ↓pTuple_tup, ↓pTuple_lst, ↓pList_tup, ↓pList_lst, sl_1, sl_2, sl_3, sl_4, sl_5, sl_6, sl_7, kind_non, kind_bl, kind_int, kind_str, kind_tup, kind_lst, kind_tV, kind_gV, truP_bl, truP_tup, truP_lst, truP_int, setsP, wipeP, atI_0, atI_1, atI_2, List.map_cons, List.map_nil, List.replicate_succ, List.replicate_zero, List.length_cons, List.length_nil, Nat.reduceSub, Nat.reduceAdd, Nat.zero_add, List.cons_append, List.nil_append, List.set_cons_succ, List.set_cons_zero, Option.some.injEq, PSlot.own.injEq, PSlot.obj.injEq, OV.lsts.injEq, exists_eq', exists_eq, List.getElem?_cons_succ, List.getElem?_cons_zero, exists_eq_left', exists_eq_left, true_and, and_true, pickL, if_true, if_false, Bool.false_eq_true, Bool.true_eq_false, Bool.not_true, Bool.not_false, decide_true, decide_false]
    · simp only [↓show decide (x < 2) = false from by simpa using hx2, ↓hx2, ↓u_body, ↓u_seq, ↓u_if, ↓u_ret, ↓u_retN, ↓u_drop, ↓u_pass, ↓u_cont, ↓u_brk, ↓u_set, ↓u_par, ↓u_asg, ↓u_for, ↓u_nxP, ↓u_own, ↓u_append, ↓u_extend, ↓u_put, ↓u_ownE, ↓u_par2, ↓u_par3, ↓onlyB_f, ↓onlyB_t, slotO_f, slotO_t, ↓u_view, ↓u_viewT, ↓u_owns, ↓u_forAdd, ↓u_dict0, ↓u_pDict0, ↓u_pDict1, ↓u_setd, ↓u_look, ↓u_iVals, valsK_dcx, PSlot.obj.injEq, OV.dl.injEq, ↓u_frz, frz_own0, frz_val0, frz_no0, frz_obj0, frzS_lsts, frz_S, ↓u_gNm, ↓u_gTpT, ↓u_gTpL, ↓u_forN, ↓u_forC, ↓u_bin, ↓u_cons, ↓u_var0, ↓u_varS, ↓u_c, ↓u_tOf, ↓u_not, ↓u_and, ↓u_or, ↓u_andV, ↓u_orV, ↓u_notV, ↓u_ifE, ↓u_selC, ↓u_chain, ↓u_addI, ↓u_addT, ↓u_addL, ↓u_addG, ↓u_subI, ↓u_modI, ↓u_divI, ↓u_mulI, ↓u_mul2, ↓u_mul3, List.flatten_cons, List.flatten_nil, ↓u_ltI, ↓u_leI, ↓u_le2I, ↓w_le2G, ↓w_ltG, ↓u_gtI, ↓u_geI, ↓u_isN, ↓u_isNotN, ↓u_nil, ↓u_tup, ↓u_lst, ↓u_ixT, ↓u_ixL, ↓u_ixW0, ↓u_ixW1, ↓u_ixW2, ↓u_oNone, ↓u_oSome, ↓u_sl, ↓u_slT, ↓u_slL, ↓u_tru, ↓u_isi, ↓u_call, ↓u_fn1, ↓u_fnK, ↓u_abs, ↓u_min, ↓u_max, ↓u_boolI, ↓u_boolB, ↓u_rg1, ↓u_rg2, ↓u_lstRg, ↓u_tupRg, ↓u_iAny, ↓itemsL_one, ↓itemsK_tup, ↓itemsK_lst, ↓itemsK_gV, ↓itemsK_tV, ↓u_iRng1, ↓u_iRng2, ↓u_iEnum, ↓u_iZip, ↓u_comp, ↓u_take, ↓u_neS, ↓u_eqS, ↓pLen_tup, ↓pLen_lst, ↓pLen_tV, ↓pLen_gV, ↓pInt_int, ↓pInt_bl, ↓pTuple_tup, ↓pTuple_lst, ↓pList_tup, ↓pList_lst, sl_1, sl_2, sl_3, sl_4, sl_5, sl_6, sl_7, kind_non, kind_bl, kind_int, kind_str, kind_tup, kind_lst, kind_tV, kind_gV, truP_bl, truP_tup, truP_lst, truP_int, setsP, wipeP, atI_0, atI_1, atI_2, List.map_cons, List.map_nil, List.replicate_succ, List.replicate_zero, List.length_cons, List.length_nil, Nat.reduceSub, Nat.reduceAdd, Nat.zero_add, List.cons_append, List.nil_append, List.set_cons_succ, List.set_cons_zero, Option.some.injEq, PSlot.own.injEq, PSlot.obj.injEq, OV.lsts.injEq, exists_eq', exists_eq, List.getElem?_cons_succ, List.getElem?_cons_zero, exists_eq_left', exists_eq_left, true_and, and_true, pickL, if_true, if_false, Bool.false_eq_true, Bool.true_eq_false, Bool.not_true, Bool.not_false, decide_true, decide_false]]
  have sz : ∀ n : Nat, n ≤ 1000 → (n ≤ sizeLine) := fun n hn => sl_le (by omega)
  refine ⟨sz _ (by omega), sz _ (by omega), sz _ (by omega), sz _ (by omega), sz _ (by omega), sz _ (by omega), sz _ (by omega), sz _ (by omega), ?_⟩
  refine w_law_odd (by omega) fun v hv => ⟨sz _ (by omega), ?_⟩
  refine w_law_pick (by omega) (by simp) (by simp) fun u hu => hP u _ (by omega) (by omega) ?_
  have n0 : ∀ i : Int, i.natAbs < 1024 → Shw 0 100 (.int i) := fun i hi => (nice_int hi).shw.weak (Nat.le_refl _) (by omega)
  have nb : ∀ b : Bool, Shw 0 100 (.bl b) := fun b => (nice_bl b).shw.weak (Nat.le_refl _) (by omega)
  have nn : Shw 0 100 .non := nice_non.shw.weak (Nat.le_refl _) (by omega)
  have ns : Shw 0 100 (.str "1") := shw_c (k := 0) (.str "1") (fun i => rfl) (by decide +kernel)
  have one : ∀ u, Shw 0 100 u → ∀ v ∈ [u], Shw 0 100 v := fun u h v hv => by rw [List.mem_singleton.mp hv]; exact h
  have no : ∀ v ∈ ([] : List PV), Shw 0 100 v := fun v hv => by cases hv
  have gs : ∀ v ∈ g.map PV.int, Shw 0 100 v := fun v hv => by
    obtain ⟨x, hx, rfl⟩ := List.mem_map.mp hv
    have := sg.2 x hx
    exact n0 _ (by omega)
  have tl : ∀ l : List PV, (∀ v ∈ l, Shw 0 100 v) → l.length ≤ 9 → Shw 3 1000 (.tup l) := fun l hl hn => (shw_tup hl hn).weak (by omega) (by omega)
  have gr := bent_shw h5 hg no no (Nat.zero_le _) (Nat.zero_le _)
  have ga := fun u h => bent_shw h5 hg no (one u h) (Nat.zero_le _) (show [u].length ≤ 2 by simp)
  have gb := fun u h => bent_shw h5 hg (one u h) no (show [u].length ≤ 2 by simp) (Nat.zero_le _)
  simp only [List.nil_append, List.append_nil, List.cons_append] at gr ga gb
  simp only [List.mem_cons, List.not_mem_nil, or_false] at hu
  rcases hu with rfl | rfl | rfl | rfl | rfl | rfl | rfl | rfl | rfl | rfl | rfl | rfl | rfl
  · exact gr
  · exact tl _ (fun v hv => gs v (List.mem_reverse.mp hv)) (by simp only [List.length_reverse]; omega)
  · exact ga _ (n0 0 (by decide))
  · exact (shw_lst gs gl).weak (by omega) (by omega)
  · exact tl _ (fun v hv => gs v (List.mem_of_mem_drop hv)) (by simp only [List.length_drop]; omega)
  · exact ga _ (n0 5 (by decide))
  · exact gb _ (n0 (-1) (by decide))
  · exact ga _ (nb true)
  · exact ga _ ns
  · exact ga _ nn
  · exact gb _ (nb false)
  · refine tl _ (fun v hv => ?_) (by simp only [List.length_map]; omega)
    obtain ⟨x, hx, rfl⟩ := List.mem_map.mp hv
    by_cases h2 : x < 2
    · rw [if_pos h2]; exact nb _
    · rw [if_neg h2]; exact gs _ (List.mem_map.mpr ⟨x, hx, rfl⟩)
  · exact (odd_shw u hv).weak (by omega) (by omega)
theorem parts32 {h : Nat} (h5 : h ≤ 5) : (partsI (upto h)).length ≤ 32 := by
  rw [partsI_len, upto_len]
  exact Nat.le_trans (Nat.pow_le_pow_right (by decide) h5) (by decide)
theorem ix_last {L : List (List Int)} (hL : L ≠ []) : ∃ g ∈ L, ∀ (K : PV → Int → Prop) (E : PX → Int → Prop) (t : Int), pIx (.lst (L.map gV)) (.int (-1)) t K E = K (gV g) t := by
  have hp : 0 < L.length := List.length_pos_iff.mpr hL
  refine ⟨L[L.length - 1], List.getElem_mem _, fun K E t => ?_⟩
  show (∃ v, atI (L.map gV) (-1) = some v ∧ K v t) = _
  have e : atI (L.map gV) (-1) = some (gV L[L.length - 1]) := by
    unfold atI ixN
    rw [if_neg (by decide), List.length_map, if_pos (by omega)]
    have e2 : ((-1 : Int) + (L.length : Int)).toNat = L.length - 1 := by omega
    simp only [e2]
    show (L.map gV)[L.length - 1]? = _
    rw [List.getElem?_map, List.getElem?_eq_getElem (by omega)]; rfl
  rw [e]
  simp only [Option.some.injEq, exists_eq_left']
theorem law_true : LawTrue 63 f_law := by
  show LawTrue 63 (mBody 11 b_law)
  refine lawP (rest := br_law) (prest := pbr_law) rfl deck_ok sim_br_law (by decide) ?_
  unfold pbr_law
  simp only [↓u_body, ↓u_seq, ↓u_if, ↓u_ret, ↓u_retN, ↓u_drop, ↓u_pass, ↓u_cont, ↓u_brk, ↓u_set, ↓u_par, ↓u_asg, ↓u_for, ↓u_nxP, ↓u_own, ↓u_append, ↓u_extend, ↓u_put, ↓u_ownE, ↓u_par2, ↓u_par3, ↓onlyB_f, ↓onlyB_t, slotO_f, slotO_t, ↓u_view, ↓u_viewT, ↓u_owns, ↓u_forAdd, ↓u_dict0, ↓u_pDict0, ↓u_pDict1, ↓u_setd, ↓u_look, ↓u_iVals, valsK_dcx, PSlot.obj.injEq, OV.dl.injEq, ↓u_frz, frz_own0, frz_val0, frz_no0, frz_obj0, frzS_lsts, frz_S, ↓u_gNm, ↓u_gTpT, ↓u_gTpL, ↓u_forN, ↓u_forC, ↓u_bin, ↓u_cons, ↓u_var0, ↓u_varS, ↓u_c, ↓u_tOf, ↓u_not, ↓u_and, ↓u_or, ↓u_andV, ↓u_orV, ↓u_notV, ↓u_ifE, ↓u_selC, ↓u_chain, ↓u_addI, ↓u_addT, ↓u_addL, ↓u_addG, ↓u_subI, ↓u_modI, ↓u_divI, ↓u_mulI, ↓u_mul2, ↓u_mul3, List.flatten_cons, List.flatten_nil, ↓u_ltI, ↓u_leI, ↓u_le2I, ↓w_le2G, ↓w_ltG, ↓u_gtI, ↓u_geI, ↓u_isN, ↓u_isNotN, ↓u_nil, ↓u_tup, ↓u_lst, ↓u_ixT, ↓u_ixL, ↓u_ixW0, ↓u_ixW1, ↓u_ixW2, ↓u_oNone, ↓u_oSome, ↓u_sl, ↓u_slT, ↓u_slL, ↓u_tru, ↓u_isi, ↓u_call, ↓u_fn1, ↓u_fnK, ↓u_abs, ↓u_min, ↓u_max, ↓u_boolI, ↓u_boolB, ↓u_rg1, ↓u_rg2, ↓u_lstRg, ↓u_tupRg, ↓u_iAny, ↓itemsL_one, ↓itemsK_tup, ↓itemsK_lst, ↓itemsK_gV, ↓itemsK_tV, ↓u_iRng1, ↓u_iRng2, ↓u_iEnum, ↓u_iZip, ↓u_comp, ↓u_take, ↓u_neS, ↓u_eqS, ↓pLen_tup, ↓pLen_lst, ↓pLen_tV, ↓pLen_gV, ↓pInt_int, ↓pInt_bl, ↓pTuple_tup, ↓pTuple_lst, ↓pList_tup, ↓pList_lst, sl_1, sl_2, sl_3, sl_4, sl_5, sl_6, sl_7, kind_non, kind_bl, kind_int, kind_str, kind_tup, kind_lst, kind_tV, kind_gV, truP_bl, truP_tup, truP_lst, truP_int, setsP, wipeP, atI_0, atI_1, atI_2, List.map_cons, List.map_nil, List.replicate_succ, List.replicate_zero, List.length_cons, List.length_nil, Nat.reduceSub, Nat.reduceAdd, Nat.zero_add, List.cons_append, List.nil_append, List.set_cons_succ, List.set_cons_zero, Option.some.injEq, PSlot.own.injEq, PSlot.obj.injEq, OV.lsts.injEq, exists_eq', exists_eq, List.getElem?_cons_succ, List.getElem?_cons_zero, exists_eq_left', exists_eq_left, true_and, and_true, pickL, if_true, if_false, Bool.false_eq_true, Bool.true_eq_false, Bool.not_true, Bool.not_false, decide_true, decide_false]
  refine ⟨⟨⟨by omega, by omega⟩, ⟨by omega, by omega⟩⟩, ?_⟩
  refine for_inv (fun xs π t => (∃ s2 s3 s4 s5 s6 s7 s8 s9 s10, π = [.no, .val .deck, s2, s3, s4, s5, s6, s7, s8, s9, s10]) ∧ (∀ x ∈ xs, ∃ h : Nat, 1 ≤ h ∧ h ≤ 5 ∧ x = .int h) ∧ t + 1000 * xs.length ≤ 100000) ?step ?fin _ _ _ ⟨⟨_, _, _, _, _, _, _, _, _, rfl⟩, fun x hx => ?init, by rw [rangeP_len]; decide⟩
  case init =>
    obtain ⟨i, hi, rfl⟩ := mem_rangeP hx
    have hi : i < 5 := by simpa using hi
    exact ⟨i + 1, by omega, by omega, congrArg PV.int (by omega)⟩
  case fin =>
    rintro π t ⟨⟨s2, s3, s4, s5, s6, s7, s8, s9, s10, rfl⟩, _, _⟩
    simp only [↓u_body, ↓u_seq, ↓u_if, ↓u_ret, ↓u_retN, ↓u_drop, ↓u_pass, ↓u_cont, ↓u_brk, ↓u_set, ↓u_par, ↓u_asg, ↓u_for, ↓u_nxP, ↓u_own, ↓u_append, ↓u_extend, ↓u_put, ↓u_ownE, ↓u_par2, ↓u_par3, ↓onlyB_f, ↓onlyB_t, slotO_f, slotO_t, ↓u_view, ↓u_viewT, ↓u_owns, ↓u_forAdd, ↓u_dict0, ↓u_pDict0, ↓u_pDict1, ↓u_setd, ↓u_look, ↓u_iVals, valsK_dcx, PSlot.obj.injEq, OV.dl.injEq, ↓u_frz, frz_own0, frz_val0, frz_no0, frz_obj0, frzS_lsts, frz_S, ↓u_gNm, ↓u_gTpT, ↓u_gTpL, ↓u_forN, ↓u_forC, ↓u_bin, ↓u_cons, ↓u_var0, ↓u_varS, ↓u_c, ↓u_tOf, ↓u_not, ↓u_and, ↓u_or, ↓u_andV, ↓u_orV, ↓u_notV, ↓u_ifE, ↓u_selC, ↓u_chain, ↓u_addI, ↓u_addT, ↓u_addL, ↓u_addG, ↓u_subI, ↓u_modI, ↓u_divI, ↓u_mulI, ↓u_mul2, ↓u_mul3, List.flatten_cons, List.flatten_nil, ↓u_ltI, ↓u_leI, ↓u_le2I, ↓w_le2G, ↓w_ltG, ↓u_gtI, ↓u_geI, ↓u_isN, ↓u_isNotN, ↓u_nil, ↓u_tup, ↓u_lst, ↓u_ixT, ↓u_ixL, ↓u_ixW0, ↓u_ixW1, ↓u_ixW2, ↓u_oNone, ↓u_oSome, ↓u_sl, ↓u_slT, ↓u_slL, ↓u_tru, ↓u_isi, ↓u_call, ↓u_fn1, ↓u_fnK, ↓u_abs, ↓u_min, ↓u_max, ↓u_boolI, ↓u_boolB, ↓u_rg1, ↓u_rg2, ↓u_lstRg, ↓u_tupRg, ↓u_iAny, ↓itemsL_one, ↓itemsK_tup, ↓itemsK_lst, ↓itemsK_gV, ↓itemsK_tV, ↓u_iRng1, ↓u_iRng2, ↓u_iEnum, ↓u_iZip, ↓u_comp, ↓u_take, ↓u_neS, ↓u_eqS, ↓pLen_tup, ↓pLen_lst, ↓pLen_tV, ↓pLen_gV, ↓pInt_int, ↓pInt_bl, ↓pTuple_tup, ↓pTuple_lst, ↓pList_tup, ↓pList_lst, sl_1, sl_2, sl_3, sl_4, sl_5, sl_6, sl_7, kind_non, kind_bl, kind_int, kind_str, kind_tup, kind_lst, kind_tV, kind_gV, truP_bl, truP_tup, truP_lst, truP_int, setsP, wipeP, atI_0, atI_1, atI_2, List.map_cons, List.map_nil, List.replicate_succ, List.replicate_zero, List.length_cons, List.length_nil, Nat.reduceSub, Nat.reduceAdd, Nat.zero_add, List.cons_append, List.nil_append, List.set_cons_succ, List.set_cons_zero, Option.some.injEq, PSlot.own.injEq, PSlot.obj.injEq, OV.lsts.injEq, exists_eq', exists_eq, List.getElem?_cons_succ, List.getElem?_cons_zero, exists_eq_left', exists_eq_left, true_and, and_true, pickL, if_true, if_false, Bool.false_eq_true, Bool.true_eq_false, Bool.not_true, Bool.not_false, decide_true, decide_false]
  case step =>
    rintro x xs π t ⟨⟨s2, s3, s4, s5, s6, s7, s8, s9, s10, rfl⟩, hx, ht⟩ K hK
    obtain ⟨h, h1, h5, rfl⟩ := hx x List.mem_cons_self
    rw [List.length_cons] at ht
    push_cast at ht
    have hxl : (0 : Int) ≤ xs.length := by omega
    have hh : h ≤ 10 := by omega
    have hp := parts32 h5
    have nP : ∀ {l : List Int}, GrpI h l → Nice 2 60000 (tV (partsI l)) := fun {l} hl => by
      have sl := (gs_small h5 hl).1
      refine (nice_tVs h5 (fun g hg => parts_grp hl hg) ?_).weak (by omega) (by omega)
      rw [partsI_len]
      exact Nat.le_trans (Nat.pow_le_pow_right (by decide) sl) (by decide)
    have n0 := nP (upto_grp h)
    have r2 : ∀ (K : PV → Int → Prop) (E : PX → Int → Prop) (t : Int), pRepr [.lst [tV (partsI (upto h)), tV (partsI (upto h))]] t K E = K (.str (shw (.lst [tV (partsI (upto h)), tV (partsI (upto h))]))) t := fun K E t => w_repr (nice_lstL (niceL_cons n0 (niceL_cons n0 niceL_nil))) (by omega) (by omega)
    simp only [↓w_law_groups hh, ↓w_groups hh, ↓fold_t, ↓r2, ↓beq_self_eq_true, ↓u_body, ↓u_seq, ↓u_if, ↓u_ret, ↓u_retN, ↓u_drop, ↓u_pass, ↓u_cont, ↓u_brk, ↓u_set, ↓u_par, ↓u_asg, ↓u_for, ↓u_nxP, ↓u_own, ↓u_append, ↓u_extend, ↓u_put, ↓u_ownE, ↓u_par2, ↓u_par3, ↓onlyB_f, ↓onlyB_t, slotO_f, slotO_t, ↓u_view, ↓u_viewT, ↓u_owns, ↓u_forAdd, ↓u_dict0, ↓u_pDict0, ↓u_pDict1, ↓u_setd, ↓u_look, ↓u_iVals, valsK_dcx, PSlot.obj.injEq, OV.dl.injEq, ↓u_frz, frz_own0, frz_val0, frz_no0, frz_obj0, frzS_lsts, frz_S, ↓u_gNm, ↓u_gTpT, ↓u_gTpL, ↓u_bin, ↓u_cons, ↓u_var0, ↓u_varS, ↓u_c, ↓u_tOf, ↓u_not, ↓u_and, ↓u_or, ↓u_andV, ↓u_orV, ↓u_notV, ↓u_ifE, ↓u_selC, ↓u_chain, ↓u_addI, ↓u_addT, ↓u_addL, ↓u_addG, ↓u_subI, ↓u_modI, ↓u_divI, ↓u_mulI, ↓u_mul2, ↓u_mul3, List.flatten_cons, List.flatten_nil, ↓u_ltI, ↓u_leI, ↓u_le2I, ↓w_le2G, ↓w_ltG, ↓u_gtI, ↓u_geI, ↓u_isN, ↓u_isNotN, ↓u_nil, ↓u_tup, ↓u_lst, ↓u_ixT, ↓u_ixL, ↓u_ixW0, ↓u_ixW1, ↓u_ixW2, ↓u_oNone, ↓u_oSome, ↓u_sl, ↓u_slT, ↓u_slL, ↓u_tru, ↓u_isi, ↓u_call, ↓u_fn1, ↓u_fnK, ↓u_abs, ↓u_min, ↓u_max, ↓u_boolI, ↓u_boolB, ↓u_rg1, ↓u_rg2, ↓u_lstRg, ↓u_tupRg, ↓u_iAny, ↓itemsL_one, ↓itemsK_tup, ↓itemsK_lst, ↓itemsK_gV, ↓itemsK_tV, ↓u_iRng1, ↓u_iRng2, ↓u_iEnum, ↓u_iZip, ↓u_comp, ↓u_take, ↓u_neS, ↓u_eqS, ↓pLen_tup, ↓pLen_lst, ↓pLen_tV, ↓pLen_gV, ↓pInt_int, ↓pInt_bl, ↓pTuple_tup, ↓pTuple_lst, ↓pList_tup, ↓pList_lst, sl_1, sl_2, sl_3, sl_4, sl_5, sl_6, sl_7, kind_non, kind_bl, kind_int, kind_str, kind_tup, kind_lst, kind_tV, kind_gV, truP_bl, truP_tup, truP_lst, truP_int, setsP, wipeP, atI_0, atI_1, atI_2, List.map_cons, List.map_nil, List.replicate_succ, List.replicate_zero, List.length_cons, List.length_nil, Nat.reduceSub, Nat.reduceAdd, Nat.zero_add, List.cons_append, List.nil_append, List.set_cons_succ, List.set_cons_zero, Option.some.injEq, PSlot.own.injEq, PSlot.obj.injEq, OV.lsts.injEq, exists_eq', exists_eq, List.getElem?_cons_succ, List.getElem?_cons_zero, exists_eq_left', exists_eq_left, true_and, and_true, pickL, if_true, if_false, Bool.false_eq_true, Bool.true_eq_false, Bool.not_true, Bool.not_false, decide_true, decide_false]
    refine w_law_group hh (by omega) fun g hg => ?_
    have gg := parts_mem_grp hg
    have sg := gs_small h5 gg
    have ng := nP gg
    have e0 : PV.tup ([] : List PV) = gV [] := rfl
    have pe : partsI [] = [[]] := by
      show sortI [[]] = [[]]
      unfold sortI
      exact List.mergeSort_singleton _
    have n1 : Nice 2 60000 (tV [[]]) := (nice_tVs h5 (fun g hg => by rw [List.mem_singleton.mp hg]; exact ⟨List.Pairwise.nil, fun _ z => by cases z⟩) (by simp)).weak (by omega) (by omega)
    have t0 : tV [[]] = .tup [.tup []] := rfl
    have r3 : ∀ (K : PV → Int → Prop) (E : PX → Int → Prop) (t : Int), pRepr [.lst [tV (partsI g), tV (partsI g), .tup [.tup []]]] t K E = K (.str (shw (.lst [tV (partsI g), tV (partsI g), .tup [.tup []]]))) t := fun K E t => by
      rw [← t0]
      exact w_repr (nice_lstL (niceL_cons ng (niceL_cons ng (niceL_cons n1 niceL_nil)))) (by omega) (by omega)
    have p0 : ∀ (K : PV → Int → Prop) (E : PX → Int → Prop) (t : Int), pf_parts [.tup []] t K E = K (.tup [.tup []]) t := fun K E t => by
      rw [e0, w_parts (by simp), pe]; rfl
    obtain ⟨last, hlast, elast⟩ := ix_last (parts_ne h)
    have gl := parts_mem_grp hlast
    simp only [↓w_parts (show g.length ≤ 10 by omega), ↓w_law_partsG (show g.length ≤ 10 by omega), ↓p0, ↓r3, ↓fold_t, ↓beq_self_eq_true, ↓u_neg, ↓elast, ↓u_body, ↓u_seq, ↓u_if, ↓u_ret, ↓u_retN, ↓u_drop, ↓u_pass, ↓u_cont, ↓u_brk, ↓u_set, ↓u_par, ↓u_asg, ↓u_for, ↓u_nxP, ↓u_own, ↓u_append, ↓u_extend, ↓u_put, ↓u_ownE, ↓u_par2, ↓u_par3, ↓onlyB_f, ↓onlyB_t, slotO_f, slotO_t, ↓u_view, ↓u_viewT, ↓u_owns, ↓u_forAdd, ↓u_dict0, ↓u_pDict0, ↓u_pDict1, ↓u_setd, ↓u_look, ↓u_iVals, valsK_dcx, PSlot.obj.injEq, OV.dl.injEq, ↓u_frz, frz_own0, frz_val0, frz_no0, frz_obj0, frzS_lsts, frz_S, ↓u_gNm, ↓u_gTpT, ↓u_gTpL, ↓u_bin, ↓u_cons, ↓u_var0, ↓u_varS, ↓u_c, ↓u_tOf, ↓u_not, ↓u_and, ↓u_or, ↓u_andV, ↓u_orV, ↓u_notV, ↓u_ifE, ↓u_selC, ↓u_chain, ↓u_addI, ↓u_addT, ↓u_addL, ↓u_addG, ↓u_subI, ↓u_modI, ↓u_divI, ↓u_mulI, ↓u_mul2, ↓u_mul3, List.flatten_cons, List.flatten_nil, ↓u_ltI, ↓u_leI, ↓u_le2I, ↓w_le2G, ↓w_ltG, ↓u_gtI, ↓u_geI, ↓u_isN, ↓u_isNotN, ↓u_nil, ↓u_tup, ↓u_lst, ↓u_ixT, ↓u_ixL, ↓u_ixW0, ↓u_ixW1, ↓u_ixW2, ↓u_oNone, ↓u_oSome, ↓u_sl, ↓u_slT, ↓u_slL, ↓u_tru, ↓u_isi, ↓u_call, ↓u_fn1, ↓u_fnK, ↓u_abs, ↓u_min, ↓u_max, ↓u_boolI, ↓u_boolB, ↓u_rg1, ↓u_rg2, ↓u_lstRg, ↓u_tupRg, ↓u_iAny, ↓itemsL_one, ↓itemsK_tup, ↓itemsK_lst, ↓itemsK_gV, ↓itemsK_tV, ↓u_iRng1, ↓u_iRng2, ↓u_iEnum, ↓u_iZip, ↓u_comp, ↓u_take, ↓u_neS, ↓u_eqS, ↓pLen_tup, ↓pLen_lst, ↓pLen_tV, ↓pLen_gV, ↓pInt_int, ↓pInt_bl, ↓pTuple_tup, ↓pTuple_lst, ↓pList_tup, ↓pList_lst, sl_1, sl_2, sl_3, sl_4, sl_5, sl_6, sl_7, kind_non, kind_bl, kind_int, kind_str, kind_tup, kind_lst, kind_tV, kind_gV, truP_bl, truP_tup, truP_lst, truP_int, setsP, wipeP, atI_0, atI_1, atI_2, List.map_cons, List.map_nil, List.replicate_succ, List.replicate_zero, List.length_cons, List.length_nil, Nat.reduceSub, Nat.reduceAdd, Nat.zero_add, List.cons_append, List.nil_append, List.set_cons_succ, List.set_cons_zero, Option.some.injEq, PSlot.own.injEq, PSlot.obj.injEq, OV.lsts.injEq, exists_eq', exists_eq, List.getElem?_cons_succ, List.getElem?_cons_zero, exists_eq_left', exists_eq_left, true_and, and_true, pickL, if_true, if_false, Bool.false_eq_true, Bool.true_eq_false, Bool.not_true, Bool.not_false, decide_true, decide_false]
    have s0 : 0 ≤ sizeLine := Nat.zero_le _
    have s11 : 11 ≤ sizeLine := sl_le (by decide)
    have n0 : ∀ i : Int, i.natAbs < 1024 → Shw 0 100 (.int i) := fun i hi => (nice_int hi).shw.weak (Nat.le_refl _) (by omega)
    have e1 : ∀ (K : PV → Int → Prop) (E : PX → Int → Prop) (t : Int), pAdd (gV last) (.tup [.int h]) t K E = ((last.map PV.int).length + [PV.int h].length ≤ sizeLine ∧ K (.tup (last.map PV.int ++ [.int h])) t) := fun K E t => rfl
    have ll := (gs_small h5 gl).1
    refine ⟨s0, s0, ?_⟩
    rw [e1]
    refine ⟨by rw [List.length_map]; exact sl_le (by simp; omega), s0, s11, ⟨by omega, by omega⟩, ?_⟩
    refine comp_draw (R := Shw 3 1000) (c := 2) (by omega) _ [] _ (by rw [rangeP_len]; decide) (fun x _ t' K ht' hK => ?_) fun ys t' hl hy ht' => ?_
    · simp only [↓u_body, ↓u_seq, ↓u_if, ↓u_ret, ↓u_retN, ↓u_drop, ↓u_pass, ↓u_cont, ↓u_brk, ↓u_set, ↓u_par, ↓u_asg, ↓u_for, ↓u_nxP, ↓u_own, ↓u_append, ↓u_extend, ↓u_put, ↓u_ownE, ↓u_par2, ↓u_par3, ↓onlyB_f, ↓onlyB_t, slotO_f, slotO_t, ↓u_view, ↓u_viewT, ↓u_owns, ↓u_forAdd, ↓u_dict0, ↓u_pDict0, ↓u_pDict1, ↓u_setd, ↓u_look, ↓u_iVals, valsK_dcx, PSlot.obj.injEq, OV.dl.injEq, ↓u_frz, frz_own0, frz_val0, frz_no0, frz_obj0, frzS_lsts, frz_S, ↓u_gNm, ↓u_gTpT, ↓u_gTpL, ↓u_bin, ↓u_cons, ↓u_var0, ↓u_varS, ↓u_c, ↓u_tOf, ↓u_not, ↓u_and, ↓u_or, ↓u_andV, ↓u_orV, ↓u_notV, ↓u_ifE, ↓u_selC, ↓u_chain, ↓u_addI, ↓u_addT, ↓u_addL, ↓u_addG, ↓u_subI, ↓u_modI, ↓u_divI, ↓u_mulI, ↓u_mul2, ↓u_mul3, List.flatten_cons, List.flatten_nil, ↓u_ltI, ↓u_leI, ↓u_le2I, ↓w_le2G, ↓w_ltG, ↓u_gtI, ↓u_geI, ↓u_isN, ↓u_isNotN, ↓u_nil, ↓u_tup, ↓u_lst, ↓u_ixT, ↓u_ixL, ↓u_ixW0, ↓u_ixW1, ↓u_ixW2, ↓u_oNone, ↓u_oSome, ↓u_sl, ↓u_slT, ↓u_slL, ↓u_tru, ↓u_isi, ↓u_call, ↓u_fn1, ↓u_fnK, ↓u_abs, ↓u_min, ↓u_max, ↓u_boolI, ↓u_boolB, ↓u_rg1, ↓u_rg2, ↓u_lstRg, ↓u_tupRg, ↓u_iAny, ↓itemsL_one, ↓itemsK_tup, ↓itemsK_lst, ↓itemsK_gV, ↓itemsK_tV, ↓u_iRng1, ↓u_iRng2, ↓u_iEnum, ↓u_iZip, ↓u_comp, ↓u_take, ↓u_neS, ↓u_eqS, ↓pLen_tup, ↓pLen_lst, ↓pLen_tV, ↓pLen_gV, ↓pInt_int, ↓pInt_bl, ↓pTuple_tup, ↓pTuple_lst, ↓pList_tup, ↓pList_lst, sl_1, sl_2, sl_3, sl_4, sl_5, sl_6, sl_7, kind_non, kind_bl, kind_int, kind_str, kind_tup, kind_lst, kind_tV, kind_gV, truP_bl, truP_tup, truP_lst, truP_int, setsP, wipeP, atI_0, atI_1, atI_2, List.map_cons, List.map_nil, List.replicate_succ, List.replicate_zero, List.length_cons, List.length_nil, Nat.reduceSub, Nat.reduceAdd, Nat.zero_add, List.cons_append, List.nil_append, List.set_cons_succ, List.set_cons_zero, Option.some.injEq, PSlot.own.injEq, PSlot.obj.injEq, OV.lsts.injEq, exists_eq', exists_eq, List.getElem?_cons_succ, List.getElem?_cons_zero, exists_eq_left', exists_eq_left, true_and, and_true, pickL, if_true, if_false, Bool.false_eq_true, Bool.true_eq_false, Bool.not_true, Bool.not_false, decide_true, decide_false]
      rw [rangeP_len] at ht'
      exact w_law_bent_group h5 gg (by simp at ht'; omega) fun v t'' _ h2 hv => hK v t'' hv h2
    rw [rangeP_len] at hl ht'
    have hl : ys.length = 8 := hl
    have ht' : t' ≤ t + 1 + 16 := by simp at ht'; omega
    refine ⟨sl_le (by rw [List.nil_append]; omega), ?_⟩
    have no : ∀ v ∈ ([] : List PV), Shw 0 100 v := fun v hv => by cases hv
    have one : ∀ u, Shw 0 100 u → ∀ v ∈ [u], Shw 0 100 v := fun u h v hv => by rw [List.mem_singleton.mp hv]; exact h
    have tl : ∀ l : List PV, (∀ v ∈ l, Shw 0 100 v) → l.length ≤ 9 → Shw 3 1000 (.tup l) := fun l hl hn => (shw_tup hl hn).weak (by omega) (by omega)
    have gr : ∀ {q : List Int}, GrpI h q → Shw 3 1000 (gV q) := fun hq => by
      have := bent_shw h5 hq no no (Nat.zero_le _) (Nat.zero_le _)
      simp only [List.nil_append, List.append_nil] at this
      exact this
    have ga := bent_shw h5 gl no (one _ (n0 h (by omega))) (Nat.zero_le _) (show [PV.int h].length ≤ 2 by simp)
    rw [List.nil_append] at ga
    refine for_inv (fun zs π t'' => (∃ s6 s7 s8 s9 s10, π = [.no, .val .deck, .val (.int h), .val (.lst ((partsI (upto h)).map gV)), .val (gV g), .val (.lst [gV g, gV last, .tup (last.map PV.int ++ [.int h]), .tup [.int h], .tup [.int (-1)], .tup [], .tup [.int 0, .int 0], .lst [.int 0], .dct [], .dct [(Sum.inl 0, .int 0)], .str "0"]), s6, s7, s8, s9, s10]) ∧ (∀ v ∈ zs, Shw 3 1000 v) ∧ t'' = t') ?step2 ?fin2 _ _ _ ⟨⟨_, _, _, _, _, rfl⟩, fun v hv => ?init2, rfl⟩
    case init2 =>
      simp only [List.mem_cons, List.nil_append] at hv
      rcases hv with rfl | rfl | rfl | rfl | rfl | rfl | rfl | rfl | rfl | rfl | rfl | hv
      · exact gr gg
      · exact gr gl
      · exact ga
      · exact tl _ (one _ (n0 h (by omega))) (by simp)
      · exact tl _ (one _ (n0 (-1) (by decide))) (by simp)
      · exact tl _ no (by simp)
      · exact (odd_shw _ (by simp [oddVals])).weak (by omega) (by omega)
      · exact (odd_shw _ (by simp [oddVals])).weak (by omega) (by omega)
      · exact (odd_shw _ (by simp [oddVals])).weak (by omega) (by omega)
      · exact (shw_d (fun i => rfl) (by decide +kernel)).weak (by omega) (by omega)
      · exact (odd_shw _ (by simp [oddVals])).weak (by omega) (by omega)
      · exact hy v hv
    case fin2 =>
      rintro π t'' ⟨⟨s6, s7, s8, s9, s10, rfl⟩, _, rfl⟩
      dsimp only
      exact hK _ _ ⟨⟨_, _, _, _, _, _, _, _, _, rfl⟩, fun z hz => hx z (List.mem_cons_of_mem _ hz), by omega⟩
    case step2 =>
      rintro v zs π t'' ⟨⟨s6, s7, s8, s9, s10, rfl⟩, hz, rfl⟩ K2 hK2
      have hv := hz v List.mem_cons_self
      have r1 : ∀ (K : PV → Int → Prop) (E : PX → Int → Prop) (t : Int), pRepr [v] t K E = K (.str (shw v)) t := fun K E t => w_reprS hv (by omega) (by omega)
      have rb : ∀ (b : Bool) (K : PV → Int → Prop) (E : PX → Int → Prop) (t : Int), pRepr [.lst [.bl b, .bl b]] t K E = K (.str (shw (.lst [.bl b, .bl b]))) t := fun b K E t => w_repr (nice_lstL (niceL_cons (nice_bl b) (niceL_cons (nice_bl b) niceL_nil))) (by omega) (by omega)
      have hlen : ∀ vs, v = .tup vs → vs.length ≤ 1000 := hv.len
      simp only [↓r1, ↓w_law_is_groupA hv.dat hlen, ↓w_is_groupA hv.dat, ↓rb, ↓beq_self_eq_true, ↓u_body, ↓u_seq, ↓u_if, ↓u_ret, ↓u_retN, ↓u_drop, ↓u_pass, ↓u_cont, ↓u_brk, ↓u_set, ↓u_par, ↓u_asg, ↓u_for, ↓u_nxP, ↓u_own, ↓u_append, ↓u_extend, ↓u_put, ↓u_ownE, ↓u_par2, ↓u_par3, ↓onlyB_f, ↓onlyB_t, slotO_f, slotO_t, ↓u_view, ↓u_viewT, ↓u_owns, ↓u_forAdd, ↓u_dict0, ↓u_pDict0, ↓u_pDict1, ↓u_setd, ↓u_look, ↓u_iVals, valsK_dcx, PSlot.obj.injEq, OV.dl.injEq, ↓u_frz, frz_own0, frz_val0, frz_no0, frz_obj0, frzS_lsts, frz_S, ↓u_gNm, ↓u_gTpT, ↓u_gTpL, ↓u_forN, ↓u_forC, ↓u_bin, ↓u_cons, ↓u_var0, ↓u_varS, ↓u_c, ↓u_tOf, ↓u_not, ↓u_and, ↓u_or, ↓u_andV, ↓u_orV, ↓u_notV, ↓u_ifE, ↓u_selC, ↓u_chain, ↓u_addI, ↓u_addT, ↓u_addL, ↓u_addG, ↓u_subI, ↓u_modI, ↓u_divI, ↓u_mulI, ↓u_mul2, ↓u_mul3, List.flatten_cons, List.flatten_nil, ↓u_ltI, ↓u_leI, ↓u_le2I, ↓w_le2G, ↓w_ltG, ↓u_gtI, ↓u_geI, ↓u_isN, ↓u_isNotN, ↓u_nil, ↓u_tup, ↓u_lst, ↓u_ixT, ↓u_ixL, ↓u_ixW0, ↓u_ixW1, ↓u_ixW2, ↓u_oNone, ↓u_oSome, ↓u_sl, ↓u_slT, ↓u_slL, ↓u_tru, ↓u_isi, ↓u_call, ↓u_fn1, ↓u_fnK, ↓u_abs, ↓u_min, ↓u_max, ↓u_boolI, ↓u_boolB, ↓u_rg1, ↓u_rg2, ↓u_lstRg, ↓u_tupRg, ↓u_iAny, ↓itemsL_one, ↓itemsK_tup, ↓itemsK_lst, ↓itemsK_gV, ↓itemsK_tV, ↓u_iRng1, ↓u_iRng2, ↓u_iEnum, ↓u_iZip, ↓u_comp, ↓u_take, ↓u_neS, ↓u_eqS, ↓pLen_tup, ↓pLen_lst, ↓pLen_tV, ↓pLen_gV, ↓pInt_int, ↓pInt_bl, ↓pTuple_tup, ↓pTuple_lst, ↓pList_tup, ↓pList_lst, sl_1, sl_2, sl_3, sl_4, sl_5, sl_6, sl_7, kind_non, kind_bl, kind_int, kind_str, kind_tup, kind_lst, kind_tV, kind_gV, truP_bl, truP_tup, truP_lst, truP_int, setsP, wipeP, atI_0, atI_1, atI_2, List.map_cons, List.map_nil, List.replicate_succ, List.replicate_zero, List.length_cons, List.length_nil, Nat.reduceSub, Nat.reduceAdd, Nat.zero_add, List.cons_append, List.nil_append, List.set_cons_succ, List.set_cons_zero, Option.some.injEq, PSlot.own.injEq, PSlot.obj.injEq, OV.lsts.injEq, exists_eq', exists_eq, List.getElem?_cons_succ, List.getElem?_cons_zero, exists_eq_left', exists_eq_left, true_and, and_true, pickL, if_true, if_false, Bool.false_eq_true, Bool.true_eq_false, Bool.not_true, Bool.not_false, decide_true, decide_false]
      exact hK2 _ _ ⟨⟨_, _, _, _, _, rfl⟩, fun y hy => hz y (List.mem_cons_of_mem _ hy), rfl⟩
end
end K01

namespace K01
open PySem PySem.Spec PyProof.Rows L2 RL
theorem y_is_number : ByPos "is_number" s_is_number p_is_number := fun _ _ _ _ _ _ us hl => match us, hl with | [_], _ => rfl
theorem y_is_whole : ByPos "is_whole" s_is_whole p_is_whole := fun _ _ _ _ _ _ us hl => match us, hl with | [_, _, _], _ => rfl
theorem y_is_group : ByPos "is_group" s_is_group p_is_group := fun _ _ _ _ _ _ us hl => match us, hl with | [_, _], _ => rfl
theorem y_parts : ByPos "parts" s_parts p_parts := fun _ _ _ _ _ _ us hl => match us, hl with | [_], _ => rfl
theorem y_groups : ByPos "groups" s_groups p_groups := fun _ _ _ _ _ _ us hl => match us, hl with | [_], _ => rfl
theorem y__law_deck : ByPos "_law_deck" s__law_deck p__law_deck := fun _ _ _ _ _ _ us hl => match us, hl with | [_], _ => rfl
theorem y__law_take : ByPos "_law_take" s__law_take p__law_take := fun _ _ _ _ _ _ us hl => match us, hl with | [_, _], _ => rfl
theorem y__law_pick : ByPos "_law_pick" s__law_pick p__law_pick := fun _ _ _ _ _ _ us hl => match us, hl with | [_, _], _ => rfl
theorem y__law_odd : ByPos "_law_odd" s__law_odd p__law_odd := fun _ _ _ _ _ _ us hl => match us, hl with | [_], _ => rfl
theorem y__law_parts : ByPos "_law_parts" s__law_parts p__law_parts := fun _ _ _ _ _ _ us hl => match us, hl with | [_], _ => rfl
theorem y__law_groups : ByPos "_law_groups" s__law_groups p__law_groups := fun _ _ _ _ _ _ us hl => match us, hl with | [_], _ => rfl
theorem y__law_group : ByPos "_law_group" s__law_group p__law_group := fun _ _ _ _ _ _ us hl => match us, hl with | [_, _], _ => rfl
theorem y__law_is_whole : ByPos "_law_is_whole" s__law_is_whole p__law_is_whole := fun _ _ _ _ _ _ us hl => match us, hl with | [_, _, _], _ => rfl
theorem y__law_is_group : ByPos "_law_is_group" s__law_is_group p__law_is_group := fun _ _ _ _ _ _ us hl => match us, hl with | [_, _], _ => rfl
theorem y__law_bent_group : ByPos "_law_bent_group" s__law_bent_group p__law_bent_group := fun _ _ _ _ _ _ us hl => match us, hl with | [_, _], _ => rfl
theorem y_law : ByPos "law" s_law p_law := fun _ _ _ _ _ _ us hl => match us, hl with | [_], _ => rfl
theorem all_mk {P : Program} {w : World} {K : PySem.W.Frag} {h : Heap} {mg : Str → Option Value} {fa : Addr} (X : K.In h) (G : h.Ns mainGlobals mg) (hfa : mg "law" = some (.ref fa))
    {f0 : Addr} {oc0 kV0 dc0 pm0 cd0 ct0 : Value} {od0 an0 : Option Addr} {sl0 : Array (Option Value)}
    (a0 : PySem.W.nsIn K mainGlobals "is_number" = some (some (.ref f0))) (l0 : K.lookup f0 = some ⟨oc0, od0, .func (PySem.W.fnOf "is_number" "is_number" (defArgs s_is_number) (defBody s_is_number) (defScope s_is_number) .none kV0 dc0 pm0 an0 cd0 ct0), sl0⟩) (c0 : PySem.W.codeIn K cd0 "is_number" = true) (k0 : PySem.W.keepIn K (.ref f0) = true)
    {f1 : Addr} {oc1 kV1 dc1 pm1 cd1 ct1 : Value} {od1 an1 : Option Addr} {sl1 : Array (Option Value)}
    (a1 : PySem.W.nsIn K mainGlobals "is_whole" = some (some (.ref f1))) (l1 : K.lookup f1 = some ⟨oc1, od1, .func (PySem.W.fnOf "is_whole" "is_whole" (defArgs s_is_whole) (defBody s_is_whole) (defScope s_is_whole) .none kV1 dc1 pm1 an1 cd1 ct1), sl1⟩) (c1 : PySem.W.codeIn K cd1 "is_whole" = true) (k1 : PySem.W.keepIn K (.ref f1) = true)
    {f2 : Addr} {oc2 kV2 dc2 pm2 cd2 ct2 : Value} {od2 an2 : Option Addr} {sl2 : Array (Option Value)}
    (a2 : PySem.W.nsIn K mainGlobals "is_group" = some (some (.ref f2))) (l2 : K.lookup f2 = some ⟨oc2, od2, .func (PySem.W.fnOf "is_group" "is_group" (defArgs s_is_group) (defBody s_is_group) (defScope s_is_group) .none kV2 dc2 pm2 an2 cd2 ct2), sl2⟩) (c2 : PySem.W.codeIn K cd2 "is_group" = true) (k2 : PySem.W.keepIn K (.ref f2) = true)
    {f3 : Addr} {oc3 kV3 dc3 pm3 cd3 ct3 : Value} {od3 an3 : Option Addr} {sl3 : Array (Option Value)}
    (a3 : PySem.W.nsIn K mainGlobals "parts" = some (some (.ref f3))) (l3 : K.lookup f3 = some ⟨oc3, od3, .func (PySem.W.fnOf "parts" "parts" (defArgs s_parts) (defBody s_parts) (defScope s_parts) .none kV3 dc3 pm3 an3 cd3 ct3), sl3⟩) (c3 : PySem.W.codeIn K cd3 "parts" = true) (k3 : PySem.W.keepIn K (.ref f3) = true)
    {f4 : Addr} {oc4 kV4 dc4 pm4 cd4 ct4 : Value} {od4 an4 : Option Addr} {sl4 : Array (Option Value)}
    (a4 : PySem.W.nsIn K mainGlobals "groups" = some (some (.ref f4))) (l4 : K.lookup f4 = some ⟨oc4, od4, .func (PySem.W.fnOf "groups" "groups" (defArgs s_groups) (defBody s_groups) (defScope s_groups) .none kV4 dc4 pm4 an4 cd4 ct4), sl4⟩) (c4 : PySem.W.codeIn K cd4 "groups" = true) (k4 : PySem.W.keepIn K (.ref f4) = true)
    {f5 : Addr} {oc5 kV5 dc5 pm5 cd5 ct5 : Value} {od5 an5 : Option Addr} {sl5 : Array (Option Value)}
    (a5 : PySem.W.nsIn K mainGlobals "_law_deck" = some (some (.ref f5))) (l5 : K.lookup f5 = some ⟨oc5, od5, .func (PySem.W.fnOf "_law_deck" "_law_deck" (defArgs s__law_deck) (defBody s__law_deck) (defScope s__law_deck) .none kV5 dc5 pm5 an5 cd5 ct5), sl5⟩) (c5 : PySem.W.codeIn K cd5 "_law_deck" = true) (k5 : PySem.W.keepIn K (.ref f5) = true)
    {f6 : Addr} {oc6 kV6 dc6 pm6 cd6 ct6 : Value} {od6 an6 : Option Addr} {sl6 : Array (Option Value)}
    (a6 : PySem.W.nsIn K mainGlobals "_law_take" = some (some (.ref f6))) (l6 : K.lookup f6 = some ⟨oc6, od6, .func (PySem.W.fnOf "_law_take" "_law_take" (defArgs s__law_take) (defBody s__law_take) (defScope s__law_take) .none kV6 dc6 pm6 an6 cd6 ct6), sl6⟩) (c6 : PySem.W.codeIn K cd6 "_law_take" = true) (k6 : PySem.W.keepIn K (.ref f6) = true)
    {f7 : Addr} {oc7 kV7 dc7 pm7 cd7 ct7 : Value} {od7 an7 : Option Addr} {sl7 : Array (Option Value)}
    (a7 : PySem.W.nsIn K mainGlobals "_law_pick" = some (some (.ref f7))) (l7 : K.lookup f7 = some ⟨oc7, od7, .func (PySem.W.fnOf "_law_pick" "_law_pick" (defArgs s__law_pick) (defBody s__law_pick) (defScope s__law_pick) .none kV7 dc7 pm7 an7 cd7 ct7), sl7⟩) (c7 : PySem.W.codeIn K cd7 "_law_pick" = true) (k7 : PySem.W.keepIn K (.ref f7) = true)
    {f8 : Addr} {oc8 kV8 dc8 pm8 cd8 ct8 : Value} {od8 an8 : Option Addr} {sl8 : Array (Option Value)}
    (a8 : PySem.W.nsIn K mainGlobals "_law_odd" = some (some (.ref f8))) (l8 : K.lookup f8 = some ⟨oc8, od8, .func (PySem.W.fnOf "_law_odd" "_law_odd" (defArgs s__law_odd) (defBody s__law_odd) (defScope s__law_odd) .none kV8 dc8 pm8 an8 cd8 ct8), sl8⟩) (c8 : PySem.W.codeIn K cd8 "_law_odd" = true) (k8 : PySem.W.keepIn K (.ref f8) = true)
    {f9 : Addr} {oc9 kV9 dc9 pm9 cd9 ct9 : Value} {od9 an9 : Option Addr} {sl9 : Array (Option Value)}
    (a9 : PySem.W.nsIn K mainGlobals "_law_parts" = some (some (.ref f9))) (l9 : K.lookup f9 = some ⟨oc9, od9, .func (PySem.W.fnOf "_law_parts" "_law_parts" (defArgs s__law_parts) (defBody s__law_parts) (defScope s__law_parts) .none kV9 dc9 pm9 an9 cd9 ct9), sl9⟩) (c9 : PySem.W.codeIn K cd9 "_law_parts" = true) (k9 : PySem.W.keepIn K (.ref f9) = true)
    {f10 : Addr} {oc10 kV10 dc10 pm10 cd10 ct10 : Value} {od10 an10 : Option Addr} {sl10 : Array (Option Value)}
    (a10 : PySem.W.nsIn K mainGlobals "_law_groups" = some (some (.ref f10))) (l10 : K.lookup f10 = some ⟨oc10, od10, .func (PySem.W.fnOf "_law_groups" "_law_groups" (defArgs s__law_groups) (defBody s__law_groups) (defScope s__law_groups) .none kV10 dc10 pm10 an10 cd10 ct10), sl10⟩) (c10 : PySem.W.codeIn K cd10 "_law_groups" = true) (k10 : PySem.W.keepIn K (.ref f10) = true)
    {f11 : Addr} {oc11 kV11 dc11 pm11 cd11 ct11 : Value} {od11 an11 : Option Addr} {sl11 : Array (Option Value)}
    (a11 : PySem.W.nsIn K mainGlobals "_law_group" = some (some (.ref f11))) (l11 : K.lookup f11 = some ⟨oc11, od11, .func (PySem.W.fnOf "_law_group" "_law_group" (defArgs s__law_group) (defBody s__law_group) (defScope s__law_group) .none kV11 dc11 pm11 an11 cd11 ct11), sl11⟩) (c11 : PySem.W.codeIn K cd11 "_law_group" = true) (k11 : PySem.W.keepIn K (.ref f11) = true)
    {f12 : Addr} {oc12 kV12 dc12 pm12 cd12 ct12 : Value} {od12 an12 : Option Addr} {sl12 : Array (Option Value)}
    (a12 : PySem.W.nsIn K mainGlobals "_law_is_whole" = some (some (.ref f12))) (l12 : K.lookup f12 = some ⟨oc12, od12, .func (PySem.W.fnOf "_law_is_whole" "_law_is_whole" (defArgs s__law_is_whole) (defBody s__law_is_whole) (defScope s__law_is_whole) .none kV12 dc12 pm12 an12 cd12 ct12), sl12⟩) (c12 : PySem.W.codeIn K cd12 "_law_is_whole" = true) (k12 : PySem.W.keepIn K (.ref f12) = true)
    {f13 : Addr} {oc13 kV13 dc13 pm13 cd13 ct13 : Value} {od13 an13 : Option Addr} {sl13 : Array (Option Value)}
    (a13 : PySem.W.nsIn K mainGlobals "_law_is_group" = some (some (.ref f13))) (l13 : K.lookup f13 = some ⟨oc13, od13, .func (PySem.W.fnOf "_law_is_group" "_law_is_group" (defArgs s__law_is_group) (defBody s__law_is_group) (defScope s__law_is_group) .none kV13 dc13 pm13 an13 cd13 ct13), sl13⟩) (c13 : PySem.W.codeIn K cd13 "_law_is_group" = true) (k13 : PySem.W.keepIn K (.ref f13) = true)
    {f14 : Addr} {oc14 kV14 dc14 pm14 cd14 ct14 : Value} {od14 an14 : Option Addr} {sl14 : Array (Option Value)}
    (a14 : PySem.W.nsIn K mainGlobals "_law_bent_group" = some (some (.ref f14))) (l14 : K.lookup f14 = some ⟨oc14, od14, .func (PySem.W.fnOf "_law_bent_group" "_law_bent_group" (defArgs s__law_bent_group) (defBody s__law_bent_group) (defScope s__law_bent_group) .none kV14 dc14 pm14 an14 cd14 ct14), sl14⟩) (c14 : PySem.W.codeIn K cd14 "_law_bent_group" = true) (k14 : PySem.W.keepIn K (.ref f14) = true)
    {f15 : Addr} {oc15 kV15 dc15 pm15 cd15 ct15 : Value} {od15 an15 : Option Addr} {sl15 : Array (Option Value)}
    (a15 : PySem.W.nsIn K mainGlobals "law" = some (some (.ref f15))) (l15 : K.lookup f15 = some ⟨oc15, od15, .func (PySem.W.fnOf "law" "law" (defArgs s_law) (defBody s_law) (defScope s_law) .none kV15 dc15 pm15 an15 cd15 ct15), sl15⟩) (c15 : PySem.W.codeIn K cd15 "law" = true) (k15 : PySem.W.keepIn K (.ref f15) = true)
    (z_isinstance : PySem.W.nsIn K mainGlobals "isinstance" = some none)
    (z_int : PySem.W.nsIn K mainGlobals "int" = some none)
    (z_bool : PySem.W.nsIn K mainGlobals "bool" = some none)
    (z_tuple : PySem.W.nsIn K mainGlobals "tuple" = some none)
    (z_sorted : PySem.W.nsIn K mainGlobals "sorted" = some none)
    (z_range : PySem.W.nsIn K mainGlobals "range" = some none)
    (z_len : PySem.W.nsIn K mainGlobals "len" = some none)
    (z_abs : PySem.W.nsIn K mainGlobals "abs" = some none)
    (z_list : PySem.W.nsIn K mainGlobals "list" = some none)
    (z_repr : PySem.W.nsIn K mainGlobals "repr" = some none) :
    ∃ fd : FuncData, (∀ (s : Shared) (v : Value), BindsTo s fd ⟨[v], []⟩ [("_law_script", v)]) ∧ ∀ base : Heap, K.In base → base.Ns mainGlobals mg → FnG P w K mg base 5 fa fd p_law f_law := by
  have e := hfa.symm.trans (PySem.W.mg_of X G a15)
  cases e
  have m_isinstance := PySem.W.mg_none_of X G z_isinstance
  have m_int := PySem.W.mg_none_of X G z_int
  have m_bool := PySem.W.mg_none_of X G z_bool
  have m_tuple := PySem.W.mg_none_of X G z_tuple
  have m_sorted := PySem.W.mg_none_of X G z_sorted
  have m_range := PySem.W.mg_none_of X G z_range
  have m_len := PySem.W.mg_none_of X G z_len
  have m_abs := PySem.W.mg_none_of X G z_abs
  have m_list := PySem.W.mg_none_of X G z_list
  have m_repr := PySem.W.mg_none_of X G z_repr
  have u0 := fun_mk (st := s_is_number) l0 c0 k0
  have u1 := fun_mk (st := s_is_whole) l1 c1 k1
  have u2 := fun_mk (st := s_is_group) l2 c2 k2
  have u3 := fun_mk (st := s_parts) l3 c3 k3
  have u4 := fun_mk (st := s_groups) l4 c4 k4
  have u5 := fun_mk (st := s__law_deck) l5 c5 k5
  have u6 := fun_mk (st := s__law_take) l6 c6 k6
  have u7 := fun_mk (st := s__law_pick) l7 c7 k7
  have u8 := fun_mk (st := s__law_odd) l8 c8 k8
  have u9 := fun_mk (st := s__law_parts) l9 c9 k9
  have u10 := fun_mk (st := s__law_groups) l10 c10 k10
  have u11 := fun_mk (st := s__law_group) l11 c11 k11
  have u12 := fun_mk (st := s__law_is_whole) l12 c12 k12
  have u13 := fun_mk (st := s__law_is_group) l13 c13 k13
  have u14 := fun_mk (st := s__law_bent_group) l14 c14 k14
  have u15 := fun_mk (st := s_law) l15 c15 k15
  refine ⟨PySem.W.fnOf "law" "law" (defArgs s_law) (defBody s_law) (defScope s_law) .none kV15 dc15 pm15 an15 cd15 ct15, fun s v => .of_eq rfl, fun base _ _ => ?_⟩
  have d_is_number := known (P := P) (w := w) (base := base) (PySem.W.mg_of X G a0) u0 y_is_number (g_is_number m_isinstance m_int m_bool u0)
  have d_is_whole := known (P := P) (w := w) (base := base) (PySem.W.mg_of X G a1) u1 y_is_whole (g_is_whole d_is_number u1)
  have d_is_group := known (P := P) (w := w) (base := base) (PySem.W.mg_of X G a2) u2 y_is_group (g_is_group m_isinstance m_tuple d_is_whole u2)
  have d_parts := known (P := P) (w := w) (base := base) (PySem.W.mg_of X G a3) u3 y_parts (g_parts m_tuple m_sorted u3)
  have d_groups := known (P := P) (w := w) (base := base) (PySem.W.mg_of X G a4) u4 y_groups (g_groups m_tuple m_range d_parts u4)
  have d__law_deck := known (P := P) (w := w) (base := base) (PySem.W.mg_of X G a5) u5 y__law_deck (g__law_deck m_len m_int m_abs u5)
  have d__law_take := known (P := P) (w := w) (base := base) (PySem.W.mg_of X G a6) u6 y__law_take (g__law_take m_int u6)
  have d__law_pick := known (P := P) (w := w) (base := base) (PySem.W.mg_of X G a7) u7 y__law_pick (g__law_pick m_len d__law_take u7)
  have d__law_odd := known (P := P) (w := w) (base := base) (PySem.W.mg_of X G a8) u8 y__law_odd (g__law_odd d__law_pick u8)
  have d__law_parts := known (P := P) (w := w) (base := base) (PySem.W.mg_of X G a9) u9 y__law_parts (g__law_parts m_sorted u9)
  have d__law_groups := known (P := P) (w := w) (base := base) (PySem.W.mg_of X G a10) u10 y__law_groups (g__law_groups m_list m_range d__law_parts u10)
  have d__law_group := known (P := P) (w := w) (base := base) (PySem.W.mg_of X G a11) u11 y__law_group (g__law_group d__law_pick d__law_groups u11)
  have d__law_is_whole := known (P := P) (w := w) (base := base) (PySem.W.mg_of X G a12) u12 y__law_is_whole (g__law_is_whole m_isinstance m_int m_bool u12)
  have d__law_is_group := known (P := P) (w := w) (base := base) (PySem.W.mg_of X G a13) u13 y__law_is_group (g__law_is_group m_isinstance m_tuple m_range m_len d__law_is_whole u13)
  have d__law_bent_group := known (P := P) (w := w) (base := base) (PySem.W.mg_of X G a14) u14 y__law_bent_group (g__law_bent_group m_list m_tuple m_bool d__law_pick d__law_odd u14)
  exact g_law m_range m_repr m_tuple d__law_deck d__law_groups d__law_group d__law_bent_group d__law_is_group d_is_group d_groups d_parts d__law_parts u15
end K01
open PySem PySem.W PyProof.Rows
set_option maxHeartbeats 0 in
theorem PySem.Challenge.cw_clearsheets_k01_groups_and_parts_holds : PySem.Challenge.rw_clearsheets_k01_groups_and_parts.Holds := by
  w_on; o_law; k_head; (case hw => w_witness2)
  k_fill
  refine RL.walkG (l := PySem.Challenge.rw_clearsheets_k01_groups_and_parts) (n := 63) (k := 5) (x := "_law_script") (F := K01.f_law) rfl (by decide) rfl ⟨rfl, by decide, by decide⟩ (fun w h Y => PySem.W.kIn_of Y) ?F K01.law_true
  case F =>
    intro w mg fa h KX G hmg
    refine' K01.all_mk KX G hmg ?a0 ?l0 ?c0 ?k0 ?a1 ?l1 ?c1 ?k1 ?a2 ?l2 ?c2 ?k2 ?a3 ?l3 ?c3 ?k3 ?a4 ?l4 ?c4 ?k4 ?a5 ?l5 ?c5 ?k5 ?a6 ?l6 ?c6 ?k6 ?a7 ?l7 ?c7 ?k7 ?a8 ?l8 ?c8 ?k8 ?a9 ?l9 ?c9 ?k9 ?a10 ?l10 ?c10 ?k10 ?a11 ?l11 ?c11 ?k11 ?a12 ?l12 ?c12 ?k12 ?a13 ?l13 ?c13 ?k13 ?a14 ?l14 ?c14 ?k14 ?a15 ?l15 ?c15 ?k15 ?z_isinstance ?z_int ?z_bool ?z_tuple ?z_sorted ?z_range ?z_len ?z_abs ?z_list ?z_repr
    (case a0 => k_is); (case l0 => k_is); (case c0 => k_is); (case k0 => k_is); (case a1 => k_is); (case l1 => k_is); (case c1 => k_is); (case k1 => k_is); (case a2 => k_is); (case l2 => k_is); (case c2 => k_is); (case k2 => k_is); (case a3 => k_is); (case l3 => k_is); (case c3 => k_is); (case k3 => k_is); (case a4 => k_is); (case l4 => k_is); (case c4 => k_is); (case k4 => k_is); (case a5 => k_is); (case l5 => k_is); (case c5 => k_is); (case k5 => k_is); (case a6 => k_is); (case l6 => k_is); (case c6 => k_is); (case k6 => k_is); (case a7 => k_is); (case l7 => k_is); (case c7 => k_is); (case k7 => k_is); (case a8 => k_is); (case l8 => k_is); (case c8 => k_is); (case k8 => k_is); (case a9 => k_is); (case l9 => k_is); (case c9 => k_is); (case k9 => k_is); (case a10 => k_is); (case l10 => k_is); (case c10 => k_is); (case k10 => k_is); (case a11 => k_is); (case l11 => k_is); (case c11 => k_is); (case k11 => k_is); (case a12 => k_is); (case l12 => k_is); (case c12 => k_is); (case k12 => k_is); (case a13 => k_is); (case l13 => k_is); (case c13 => k_is); (case k13 => k_is); (case a14 => k_is); (case l14 => k_is); (case c14 => k_is); (case k14 => k_is); (case a15 => k_is); (case l15 => k_is); (case c15 => k_is); (case k15 => k_is); (case z_isinstance => k_is); (case z_int => k_is); (case z_bool => k_is); (case z_tuple => k_is); (case z_sorted => k_is); (case z_range => k_is); (case z_len => k_is); (case z_abs => k_is); (case z_list => k_is); (case z_repr => k_is)

