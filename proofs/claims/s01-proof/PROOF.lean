import PyProof.Rows.All
import VbxlacSpec
import Wide.All
import OpenK.AllK
import Wide.FinOn
import Open.SpecLaws
import KE.OsGo
import HandS.ForSpec
import HandS.Comp
import HandS.Evl
import HandS.SetFor
import PySem.Challenge.RW_surelinks_s01_answers
import PyVbxlac
import PyFlatLaws
set_option Elab.async false
set_option linter.all false
set_option maxRecDepth 100000
set_option maxHeartbeats 4000000
namespace Sur
open Vbxlac
/-! # A. Packets and their bytes: pure, over the specification alone -/

/-- the fold from any start -/
def csFrom (c : Nat) (b : Bytes) : Nat := b.foldl (fun c b => (c * 257 + b + 1) % 1000000007) c

theorem checksum_eq (b : Bytes) : checksum b = csFrom 0 b := by
  unfold checksum csFrom
  rfl

theorem csFrom_append (c : Nat) (a b : Bytes) : csFrom c (a ++ b) = csFrom (csFrom c a) b := List.foldl_append

theorem csFrom_cons (c x : Nat) (b : Bytes) : csFrom c (x :: b) = csFrom ((c * 257 + x + 1) % 1000000007) b := by
  unfold csFrom
  exact List.foldl_cons ..

theorem csFrom_lt : ∀ (b : Bytes) {c : Nat}, c < 1000000007 → csFrom c b < 1000000007
  | [], _, h => h
  | x :: b, c, _ => by
    rw [csFrom_cons]
    exact csFrom_lt b (Nat.mod_lt _ (by decide))

theorem checksum_lt (b : Bytes) : checksum b < 1000000007 := by
  rw [checksum_eq]
  exact csFrom_lt b (by decide)

theorem fourBytes_inj {n m : Nat} (h : fourBytes n = fourBytes m) : n = m := by
  unfold fourBytes at h
  injection h with h1 h
  injection h with h2 h
  injection h with h3 h
  injection h with h4 _
  omega

theorem fourBytes_length (n : Nat) : (fourBytes n).length = 4 := rfl

theorem fourBytes_lt {n : Nat} (h : n < 1000000007) : ∀ x ∈ fourBytes n, x < 256 := by
  intro x hx
  simp only [fourBytes, List.mem_cons, List.not_mem_nil, or_false] at hx
  rcases hx with rfl | rfl | rfl | rfl <;> omega

/-- two different starts below the modulus stay different -/
theorem csFrom_inj : ∀ (b : Bytes) {c d : Nat}, c < 1000000007 → d < 1000000007 → csFrom c b = csFrom d b → c = d
  | [], _, _, _, _, h => h
  | x :: b, c, d, hc, hd, h => by
    rw [csFrom_cons, csFrom_cons] at h
    have e := csFrom_inj b (Nat.mod_lt _ (by decide)) (Nat.mod_lt _ (by decide)) h
    omega

theorem checksum_one {a b : Bytes} {x y : Nat} (hx : x < 256) (hy : y < 256) (h : checksum (a ++ x :: b) = checksum (a ++ y :: b)) : x = y := by
  rw [checksum_eq, checksum_eq, csFrom_append, csFrom_append, csFrom_cons, csFrom_cons] at h
  have e := csFrom_inj b (Nat.mod_lt _ (by decide)) (Nat.mod_lt _ (by decide)) h
  omega

/-! ## writing and reading -/
theorem isPacket_iff {p : Packet} : isPacket p = true ↔
    (1 ≤ p.sender ∧ p.sender ≤ 4) ∧ (1 ≤ p.receiver ∧ p.receiver ≤ 4) ∧ p.sender ≠ p.receiver ∧ p.number ≤ 60 ∧
      ((p.kind = 1 ∧ 1 ≤ p.number ∧ p.payload.length ≤ 16 ∧ ∀ b ∈ p.payload, b < 256) ∨ (p.kind = 2 ∧ p.payload = [])) := by
  unfold isPacket isSiteNumber isPayload maxSites maxPosts maxPayload
  simp only [Bool.and_eq_true, Bool.or_eq_true, decide_eq_true_eq, bne_iff_ne, beq_iff_eq, List.all_eq_true, List.isEmpty_iff, ne_eq]
  constructor
  · rintro ⟨⟨⟨a, b⟩, ⟨c, d⟩, e, f⟩, g⟩
    exact ⟨⟨a, b⟩, ⟨c, d⟩, e, f, g⟩
  · rintro ⟨⟨a, b⟩, ⟨c, d⟩, e, f, g⟩
    exact ⟨⟨⟨a, b⟩, ⟨c, d⟩, e, f⟩, g⟩

theorem packetBody_one {p : Packet} (h : p.kind = 1) : packetBody p = 1 :: p.sender :: p.receiver :: p.number :: p.payload.length :: p.payload := by
  unfold packetBody
  rw [if_pos h, h]
  rfl

theorem packetBody_ne {p : Packet} (h : p.kind ≠ 1) : packetBody p = [p.kind, p.sender, p.receiver, p.number] := by
  unfold packetBody
  rw [if_neg h, List.append_nil]

theorem readBody_body {p : Packet} (h : isPacket p = true) : readBody (packetBody p) = some p := by
  obtain ⟨_, _, _, _, h⟩ := isPacket_iff.mp h
  rcases p with ⟨k, s, r, n, pay⟩
  rcases h with ⟨e, _⟩ | ⟨e, e2⟩
  · rw [packetBody_one e]
    simp only at e
    subst e
    simp [readBody]
  · simp only at e e2
    subst e e2
    rw [packetBody_ne (by simp)]
    rfl

theorem body_of_readBody {b : Bytes} {p : Packet} (h : readBody b = some p) : packetBody p = b := by
  unfold readBody at h
  split at h
  · split at h
    · rename_i e
      cases h
      rw [packetBody_one rfl]
      simp only [e]
    · cases h
  · cases h
    exact packetBody_ne (by simp)
  · cases h

theorem readPacket_write {p : Packet} (h : isPacket p = true) : readPacket (writePacket p) = some p := by
  unfold readPacket writePacket
  have l : (packetBody p ++ fourBytes (checksum (packetBody p))).length - 4 = (packetBody p).length := by
    rw [List.length_append, fourBytes_length]
    omega
  simp only [l, List.take_left, List.drop_left, if_true, readBody_body h, Option.filter_some, h]

theorem readPacket_some {b : Bytes} {p : Packet} (h : readPacket b = some p) : isPacket p = true ∧ writePacket p = b := by
  unfold readPacket at h
  simp only at h
  split at h
  · rename_i e
    rw [Option.filter_eq_some_iff] at h
    obtain ⟨h1, h2⟩ := h
    refine ⟨h2, ?_⟩
    unfold writePacket
    rw [body_of_readBody h1, ← e, List.take_append_drop]
  · cases h

theorem readPacket_iff {b : Bytes} {p : Packet} : readPacket b = some p ↔ isPacket p = true ∧ writePacket p = b :=
  ⟨readPacket_some, fun ⟨h, e⟩ => e ▸ readPacket_write h⟩

theorem writePacket_length {p : Packet} : (writePacket p).length = (if p.kind = 1 then 9 + p.payload.length else 8) := by
  unfold writePacket
  rw [List.length_append, fourBytes_length]
  by_cases h : p.kind = 1
  · rw [packetBody_one h, if_pos h]
    simp only [List.length_cons]
    omega
  · rw [packetBody_ne h, if_neg h]
    rfl

theorem writePacket_lt {p : Packet} (h : isPacket p = true) : ∀ x ∈ writePacket p, x < 256 := by
  obtain ⟨⟨_, _⟩, ⟨_, _⟩, _, _, h⟩ := isPacket_iff.mp h
  intro x hx
  unfold writePacket at hx
  rw [List.mem_append] at hx
  rcases hx with hx | hx
  · rcases h with ⟨e, _, h3, h4⟩ | ⟨e, e2⟩
    · rw [packetBody_one e] at hx
      simp only [List.mem_cons] at hx
      rcases hx with rfl | rfl | rfl | rfl | rfl | hx <;> first | omega | exact h4 _ hx
    · rw [packetBody_ne (by omega)] at hx
      simp only [List.mem_cons, List.not_mem_nil, or_false] at hx
      rcases hx with rfl | rfl | rfl | rfl <;> omega
  · exact fourBytes_lt (checksum_lt _) x hx

/-- requirement 5 -/
theorem readPacket_set {b : Bytes} {p : Packet} (h : readPacket b = some p) {i v old : Nat} (ho : b[i]? = some old) (hne : old ≠ v) (hv : v < 256) : readPacket (b.set i v) = none := by
  obtain ⟨hp, e⟩ := readPacket_some h
  have hb := writePacket_lt hp
  rw [e] at hb
  have hold : old < 256 := hb old (List.mem_of_getElem? ho)
  have hi : i < b.length := (List.getElem?_eq_some_iff.mp ho).1
  have ei : b[i] = old := (List.getElem?_eq_some_iff.mp ho).2
  have key : (b.set i v).drop ((b.set i v).length - 4) ≠ fourBytes (checksum ((b.set i v).take ((b.set i v).length - 4))) := by
    rw [List.length_set]
    have good : b.drop (b.length - 4) = fourBytes (checksum (b.take (b.length - 4))) := by
      unfold readPacket at h
      simp only at h
      split at h
      · assumption
      · cases h
    by_cases c : i < b.length - 4
    · rw [List.drop_set_of_lt c, good]
      intro z
      have z := fourBytes_inj z
      have h1 : b.take (b.length - 4) = b.take i ++ old :: (b.take (b.length - 4)).drop (i + 1) := by
        conv => lhs; rw [← List.take_append_drop i (b.take (b.length - 4))]
        rw [List.take_take, Nat.min_eq_left (by omega), List.drop_eq_getElem_cons (by rw [List.length_take]; omega)]
        rw [List.getElem_take, ei]
      have h2 : (b.set i v).take (b.length - 4) = b.take i ++ v :: (b.take (b.length - 4)).drop (i + 1) := by
        rw [List.take_set, List.set_eq_take_append_cons_drop, if_pos (by rw [List.length_take]; omega), List.take_take, Nat.min_eq_left (by omega)]
      rw [h1, h2] at z
      exact hne (checksum_one hold hv z)
    · have e2 : (b.set i v).take (b.length - 4) = b.take (b.length - 4) := by
        rw [List.take_set_of_le (by omega)]
      rw [e2, ← good]
      intro z
      have : (b.set i v)[i]? = b[i]? := by
        have a1 : ((b.set i v).drop (b.length - 4))[i - (b.length - 4)]? = (b.drop (b.length - 4))[i - (b.length - 4)]? := by rw [z]
        rw [List.getElem?_drop, List.getElem?_drop] at a1
        rwa [show b.length - 4 + (i - (b.length - 4)) = i by omega] at a1
      rw [List.getElem?_set_self hi, ho] at this
      exact hne (Option.some.inj this).symm
  unfold readPacket
  simp only
  rw [if_neg key]
end Sur
namespace Sur
open Vbxlac
/-! # B. What holds at every moment of a request: pure, over the specification's states -/

theorem length_updateAt {α : Type} (f : α → α) : ∀ (i : Nat) (l : List α), (updateAt f i l).length = l.length
  | _, [] => by unfold updateAt; rfl
  | 0, _ :: _ => rfl
  | i + 1, _ :: r => congrArg (· + 1) (length_updateAt f i r)

theorem getElem?_updateAt {α : Type} (f : α → α) : ∀ (i : Nat) (l : List α) (j : Nat), (updateAt f i l)[j]? = if j = i then (l[j]?).map f else l[j]?
  | i, [], j => by
    have : updateAt f i [] = [] := by unfold updateAt; rfl
    rw [this]
    split <;> simp
  | 0, x :: r, 0 => by simp [updateAt]
  | 0, x :: r, j + 1 => by simp [updateAt]
  | i + 1, x :: r, 0 => by simp [updateAt]
  | i + 1, x :: r, j + 1 => by
    simp only [updateAt, List.getElem?_cons_succ, Nat.add_right_cancel_iff]
    exact getElem?_updateAt f i r j

theorem sum_updateAt {α : Type} (f : α → α) (g : α → Nat) : ∀ (i : Nat) (l : List α) (x : α), l[i]? = some x → ((updateAt f i l).map g).sum + g x = (l.map g).sum + g (f x)
  | i, [], x, h => by simp at h
  | 0, y :: r, x, h => by
    have e : y = x := by simpa using h
    subst e
    simp only [updateAt, List.map_cons, List.sum_cons]
    omega
  | i + 1, y :: r, x, h => by
    have ih := sum_updateAt f g i r x (by simpa using h)
    simp only [updateAt, List.map_cons, List.sum_cons]
    omega

theorem updateAt_out {α : Type} (f : α → α) : ∀ (i : Nat) (l : List α), l.length ≤ i → updateAt f i l = l
  | _, [], _ => by unfold updateAt; rfl
  | 0, _ :: _, h => by simp at h
  | i + 1, x :: r, h => by
    show x :: updateAt f i r = x :: r
    rw [updateAt_out f i r (by simpa using h)]

def lp (s : State) (a b : Nat) : Link := linkAt (siteAt s a).present b
def ld (s : State) (a b : Nat) : Link := linkAt (siteAt s a).durable b

theorem siteAt_update (s : State) (g : Site → Site) (x a : Nat) (t : State) (ht : t.sites = updateAt g (x - 1) s.sites) (he : g ⟨[], []⟩ = ⟨[], []⟩) :
    siteAt t a = if a - 1 = x - 1 then g (siteAt s a) else siteAt s a := by
  unfold siteAt
  rw [ht, getElem?_updateAt]
  by_cases c : a - 1 = x - 1
  · rw [if_pos c, if_pos c]
    cases s.sites[a - 1]? with
    | none => simp [he]
    | some y => rfl
  · rw [if_neg c, if_neg c]

theorem siteAt_updatePresent (s : State) (x o a : Nat) (f : Link → Link) :
    siteAt (updatePresent s x o f) a = if a - 1 = x - 1 then ⟨updateAt f (o - 1) (siteAt s a).present, (siteAt s a).durable⟩ else siteAt s a :=
  siteAt_update s (fun site => { site with present := updateAt f (o - 1) site.present }) x a (updatePresent s x o f) rfl (by simp only [updateAt_out f (o - 1) [] (Nat.zero_le _)])
theorem siteAt_sync (s : State) (x a : Nat) : siteAt (syncSite s x) a = if a - 1 = x - 1 then ⟨(siteAt s a).present, (siteAt s a).present⟩ else siteAt s a :=
  siteAt_update s (fun site => { site with durable := site.present }) x a (syncSite s x) rfl rfl
theorem siteAt_crash (s : State) (x a : Nat) : siteAt (crashSite s x) a = if a - 1 = x - 1 then ⟨(siteAt s a).durable, (siteAt s a).durable⟩ else siteAt s a :=
  siteAt_update s (fun site => { site with present := site.durable }) x a (crashSite s x) rfl rfl
theorem siteAt_syncAll (s : State) (a : Nat) : siteAt (syncAll s) a = ⟨(siteAt s a).present, (siteAt s a).present⟩ := by
  unfold siteAt syncAll
  rw [List.getElem?_map]
  cases s.sites[a - 1]? <;> rfl

theorem linkAt_updateAt (f : Link → Link) (l : List Link) (o b : Nat) (h : o - 1 < l.length) :
    linkAt (updateAt f (o - 1) l) b = if b - 1 = o - 1 then f (linkAt l b) else linkAt l b := by
  unfold linkAt
  rw [getElem?_updateAt]
  by_cases c : b - 1 = o - 1
  · rw [if_pos c, if_pos c, c, List.getElem?_eq_getElem h]
    rfl
  · rw [if_neg c, if_neg c]

theorem lp_updatePresent (s : State) (x o : Nat) (f : Link → Link) (a b : Nat) (h : o - 1 < (siteAt s x).present.length) :
    lp (updatePresent s x o f) a b = if a - 1 = x - 1 ∧ b - 1 = o - 1 then f (lp s a b) else lp s a b := by
  unfold lp
  rw [siteAt_updatePresent]
  by_cases c : a - 1 = x - 1
  · have e : siteAt s a = siteAt s x := by unfold siteAt; rw [c]
    rw [if_pos c, linkAt_updateAt f _ o b (by rw [e]; exact h)]
    by_cases d : b - 1 = o - 1
    · rw [if_pos d, if_pos ⟨c, d⟩]
    · rw [if_neg d, if_neg (fun z => d z.2)]
  · rw [if_neg c, if_neg (fun z => c z.1)]
theorem ld_updatePresent (s : State) (x o : Nat) (f : Link → Link) (a b : Nat) : ld (updatePresent s x o f) a b = ld s a b := by
  unfold ld
  rw [siteAt_updatePresent]
  split <;> rfl
theorem lp_sync (s : State) (x a b : Nat) : lp (syncSite s x) a b = lp s a b := by
  unfold lp
  rw [siteAt_sync]
  split <;> rfl
theorem ld_sync (s : State) (x a b : Nat) : ld (syncSite s x) a b = if a - 1 = x - 1 then lp s a b else ld s a b := by
  unfold ld lp
  rw [siteAt_sync]
  split <;> rfl
theorem lp_crash (s : State) (x a b : Nat) : lp (crashSite s x) a b = if a - 1 = x - 1 then ld s a b else lp s a b := by
  unfold ld lp
  rw [siteAt_crash]
  split <;> rfl
theorem ld_crash (s : State) (x a b : Nat) : ld (crashSite s x) a b = ld s a b := by
  unfold ld
  rw [siteAt_crash]
  split <;> rfl
theorem lp_syncAll (s : State) (a b : Nat) : lp (syncAll s) a b = lp s a b := by
  unfold lp
  rw [siteAt_syncAll]
theorem ld_syncAll (s : State) (a b : Nat) : ld (syncAll s) a b = lp s a b := by
  unfold ld lp
  rw [siteAt_syncAll]

/-- the durable link is behind the present one -/
structure Behind (d p : Link) : Prop where
  sentP : d.sent <+: p.sent
  ack : d.acknowledged ≤ p.acknowledged
  rcvP : d.received <+: p.received
theorem Behind.refl (p : Link) : Behind p p := ⟨List.prefix_refl _, Nat.le_refl _, List.prefix_refl _⟩
theorem Behind.trans {d p q : Link} (h : Behind d p) (g : Behind p q) : Behind d q := ⟨h.sentP.trans g.sentP, Nat.le_trans h.ack g.ack, h.rcvP.trans g.rcvP⟩
theorem Behind.sent {d p : Link} (h : Behind d p) : d.sent.length ≤ p.sent.length := h.sentP.length_le
theorem Behind.rcv {d p : Link} (h : Behind d p) : d.received.length ≤ p.received.length := h.rcvP.length_le
theorem prefix_at {α : Type} {l m : List α} (h : l <+: m) {i : Nat} {x : α} (e : l[i]? = some x) : m[i]? = some x := by
  obtain ⟨t, rfl⟩ := h
  rw [List.getElem?_append_left (List.getElem?_eq_some_iff.mp e).1]
  exact e
theorem prefix_snoc {α : Type} {l m : List α} {x : α} (h : l <+: m) (e : m[l.length]? = some x) : l ++ [x] <+: m := by
  obtain ⟨t, rfl⟩ := h
  rw [List.getElem?_append_right (Nat.le_refl _), Nat.sub_self] at e
  cases t with
  | nil => cases e
  | cons y t =>
    cases e
    exact ⟨t, by simp⟩

def isPay (m : Bytes) : Prop := m.length ≤ 16 ∧ ∀ b ∈ m, b < 256

/-- what holds of the sites -/
structure Sites (s : State) : Prop where
  few : s.sites.length ≤ 4
  lens : ∀ st ∈ s.sites, st.present.length = s.sites.length ∧ st.durable.length = s.sites.length
  up : ∀ a b, Behind (ld s a b) (lp s a b)
  cap : ∀ a, sentCount (siteAt s a).present ≤ 60
  capD : ∀ a, sentCount (siteAt s a).durable ≤ 60
  payP : ∀ a b, ∀ m ∈ (lp s a b).sent, isPay m
  payD : ∀ a b, ∀ m ∈ (ld s a b).sent, isPay m
  rcvP : ∀ a b, (lp s a b).received <+: (ld s b a).sent
  ack : ∀ a b, (lp s a b).acknowledged ≤ (ld s b a).received.length

theorem Sites.rcv {s : State} (h : Sites s) (a b : Nat) : (lp s a b).received.length ≤ (ld s b a).sent.length := (h.rcvP a b).length_le

/-- what holds of the bytes of a packet on the wires -/
structure BytesOk (s : State) (b : Bytes) : Prop where
  lt : ∀ x ∈ b, x < 256
  len : b.length ≤ 25
  site : ∀ p, readPacket b = some p → p.sender ≤ s.sites.length ∧ p.receiver ≤ s.sites.length
  msg : ∀ p, readPacket b = some p → p.kind = 1 → (ld s p.sender p.receiver).sent[p.number - 1]? = some p.payload
  ack : ∀ p, readPacket b = some p → p.kind ≠ 1 → p.number ≤ (ld s p.sender p.receiver).received.length

structure WireOk (s : State) (w : WirePacket) : Prop where
  ok : BytesOk s w.bytes
  dam : w.damaged = true → readPacket w.bytes = none
  whole : w.damaged = false → ∃ p, readPacket w.bytes = some p

/-- what holds at every moment, k calls into a request -/
structure Good (k : Nat) (s : State) : Prop where
  sites : Sites s
  wires : ∀ w ∈ s.wires, WireOk s w
  room : s.wires.length ≤ 61 * k
  none : s.sites = [] → s.wires = []

/-- t's durable links are at least s's, and t has as many sites -/
structure Later (s t : State) : Prop where
  n : t.sites.length = s.sites.length
  up : ∀ a b, Behind (ld s a b) (ld t a b)
theorem Later.refl (s : State) : Later s s := ⟨rfl, fun _ _ => Behind.refl _⟩
theorem Later.trans {s t u : State} (h : Later s t) (g : Later t u) : Later s u :=
  ⟨g.n.trans h.n, fun a b => (h.up a b).trans (g.up a b)⟩
theorem BytesOk.later {s t : State} {b : Bytes} (h : BytesOk s b) (l : Later s t) : BytesOk t b :=
  ⟨h.lt, h.len, fun p e => by rw [l.n]; exact h.site p e, fun p e k => prefix_at (l.up _ _).sentP (h.msg p e k), fun p e k => Nat.le_trans (h.ack p e k) (l.up _ _).rcv⟩
theorem WireOk.later {s t : State} {w : WirePacket} (h : WireOk s w) (l : Later s t) : WireOk t w := ⟨h.ok.later l, h.dam, h.whole⟩

theorem Sites.len_present {s : State} (h : Sites s) {a : Nat} (ha : a - 1 < s.sites.length) : (siteAt s a).present.length = s.sites.length := by
  unfold siteAt
  rw [List.getElem?_eq_getElem ha]
  exact (h.lens _ (List.getElem_mem ha)).1
theorem Sites.len_durable {s : State} (h : Sites s) {a : Nat} (ha : a - 1 < s.sites.length) : (siteAt s a).durable.length = s.sites.length := by
  unfold siteAt
  rw [List.getElem?_eq_getElem ha]
  exact (h.lens _ (List.getElem_mem ha)).2

theorem mem_updateAt {α : Type} (f : α → α) {i : Nat} {l : List α} {x : α} (h : x ∈ updateAt f i l) : x ∈ l ∨ ∃ y ∈ l, x = f y := by
  obtain ⟨j, hj⟩ := List.mem_iff_getElem?.mp h
  rw [getElem?_updateAt] at hj
  split at hj
  · cases e : l[j]? with
    | none => rw [e] at hj; cases hj
    | some y =>
      rw [e] at hj
      exact .inr ⟨y, List.mem_of_getElem? e, (Option.some.inj hj).symm⟩
  · exact .inl (List.mem_of_getElem? hj)

theorem sum_le_of {α : Type} (g : α → Nat) : ∀ (l : List α) (x : α), x ∈ l → g x ≤ (l.map g).sum
  | [], _, h => by cases h
  | y :: r, x, h => by
    rw [List.map_cons, List.sum_cons]
    cases h with
    | head => omega
    | tail _ h => have := sum_le_of g r x h; omega

theorem link_sent_le (l : List Link) (b : Nat) : (linkAt l b).sent.length ≤ sentCount l := by
  unfold linkAt
  cases e : l[b - 1]? with
  | none => exact Nat.zero_le _
  | some y => exact sum_le_of (fun k : Link => k.sent.length) l y (List.mem_of_getElem? e)

theorem Sites.sent60 {s : State} (h : Sites s) (a b : Nat) : (lp s a b).sent.length ≤ 60 := Nat.le_trans (link_sent_le _ b) (h.cap a)
theorem Sites.sentD60 {s : State} (h : Sites s) (a b : Nat) : (ld s a b).sent.length ≤ 60 := Nat.le_trans (h.up a b).sent (h.sent60 a b)
theorem Sites.rec60 {s : State} (h : Sites s) (a b : Nat) : (lp s a b).received.length ≤ 60 := Nat.le_trans (h.rcv a b) (h.sentD60 b a)
theorem Sites.recD60 {s : State} (h : Sites s) (a b : Nat) : (ld s a b).received.length ≤ 60 := Nat.le_trans (h.up a b).rcv (h.rec60 a b)
theorem Sites.ack_le {s : State} (h : Sites s) (a b : Nat) : (lp s a b).acknowledged ≤ (ld s a b).sent.length := Nat.le_trans (h.ack a b) (Nat.le_trans (h.up b a).rcv (h.rcv b a))
theorem Sites.ackD_le {s : State} (h : Sites s) (a b : Nat) : (ld s a b).acknowledged ≤ (ld s a b).sent.length := Nat.le_trans (h.up a b).ack (h.ack_le a b)
theorem Sites.ackP_le {s : State} (h : Sites s) (a b : Nat) : (lp s a b).acknowledged ≤ (lp s a b).sent.length := Nat.le_trans (h.ack_le a b) (h.up a b).sent

/-- an update of one present link -/
theorem Sites.update {s : State} (h : Sites s) {x o : Nat} {f : Link → Link} (hx : x - 1 < s.sites.length) (ho : o - 1 < s.sites.length)
    (hup : Behind (lp s x o) (f (lp s x o)))
    (hcap : sentCount (siteAt s x).present + (f (lp s x o)).sent.length ≤ 60 + (lp s x o).sent.length)
    (hpay : ∀ m ∈ (f (lp s x o)).sent, isPay m)
    (hrec : (f (lp s x o)).received <+: (ld s o x).sent)
    (hack : (f (lp s x o)).acknowledged ≤ (ld s o x).received.length) : Sites (updatePresent s x o f) := by
  have hl : o - 1 < (siteAt s x).present.length := by rw [h.len_present hx]; exact ho
  have hn : (updatePresent s x o f).sites.length = s.sites.length := length_updateAt _ _ _
  have same : ∀ {a b : Nat}, a - 1 = x - 1 → b - 1 = o - 1 → lp s a b = lp s x o := by
    intro a b e1 e2
    unfold lp siteAt linkAt
    rw [e1, e2]
  have sameD : ∀ {a b : Nat}, a - 1 = x - 1 → b - 1 = o - 1 → ld s b a = ld s o x := by
    intro a b e1 e2
    unfold ld siteAt linkAt
    rw [e1, e2]
  have sameD' : ∀ {a b : Nat}, a - 1 = x - 1 → b - 1 = o - 1 → ld s a b = ld s x o := by
    intro a b e1 e2
    unfold ld siteAt linkAt
    rw [e1, e2]
  refine ⟨by rw [hn]; exact h.few, ?_, ?_, ?_, ?_, ?_, ?_, ?_, ?_⟩
  · intro st hst
    rw [hn]
    rcases mem_updateAt _ hst with m | ⟨y, hy, e⟩
    · exact h.lens st m
    · subst e
      exact ⟨(length_updateAt _ _ _).trans (h.lens y hy).1, (h.lens y hy).2⟩
  · intro a b
    rw [lp_updatePresent _ _ _ _ _ _ hl, ld_updatePresent]
    split
    · rename_i c
      rw [same c.1 c.2, sameD' c.1 c.2]
      exact (h.up x o).trans hup
    · exact h.up a b
  · intro a
    rw [siteAt_updatePresent]
    split
    · rename_i c
      have e : siteAt s a = siteAt s x := by unfold siteAt; rw [c]
      rw [e]
      have q := sum_updateAt f (fun k : Link => k.sent.length) (o - 1) (siteAt s x).present _ (List.getElem?_eq_getElem hl)
      have q2 : lp s x o = (siteAt s x).present[o - 1] := by
        unfold lp linkAt
        rw [List.getElem?_eq_getElem hl]
        rfl
      rw [← q2] at q
      show ((updateAt f (o - 1) (siteAt s x).present).map fun link => link.sent.length).sum ≤ 60
      have hc : (((siteAt s x).present).map fun link => link.sent.length).sum + (f (lp s x o)).sent.length ≤ 60 + (lp s x o).sent.length := hcap
      omega
    · exact h.cap a
  · intro a
    have : (siteAt (updatePresent s x o f) a).durable = (siteAt s a).durable := by
      rw [siteAt_updatePresent]
      split <;> rfl
    rw [this]
    exact h.capD a
  · intro a b
    rw [lp_updatePresent _ _ _ _ _ _ hl]
    split
    · rename_i c
      rw [same c.1 c.2]
      exact hpay
    · exact h.payP a b
  · intro a b
    rw [ld_updatePresent]
    exact h.payD a b
  · intro a b
    rw [lp_updatePresent _ _ _ _ _ _ hl, ld_updatePresent]
    split
    · rename_i c
      rw [same c.1 c.2, sameD c.1 c.2]
      exact hrec
    · exact h.rcvP a b
  · intro a b
    rw [lp_updatePresent _ _ _ _ _ _ hl, ld_updatePresent]
    split
    · rename_i c
      rw [same c.1 c.2, sameD c.1 c.2]
      exact hack
    · exact h.ack a b
theorem later_update (s : State) (x o : Nat) (f : Link → Link) : Later s (updatePresent s x o f) :=
  ⟨length_updateAt _ _ _, fun a b => by rw [ld_updatePresent]; exact Behind.refl _⟩

theorem Sites.sync {s : State} (h : Sites s) (x : Nat) : Sites (syncSite s x) ∧ Later s (syncSite s x) := by
  have hn : (syncSite s x).sites.length = s.sites.length := length_updateAt _ _ _
  have l : Later s (syncSite s x) := ⟨hn, fun a b => by
    rw [ld_sync]
    split
    · exact h.up a b
    · exact Behind.refl _⟩
  refine ⟨⟨by rw [hn]; exact h.few, ?_, ?_, ?_, ?_, ?_, ?_, ?_, ?_⟩, l⟩
  · intro st hst
    rw [hn]
    rcases mem_updateAt _ hst with m | ⟨y, hy, e⟩
    · exact h.lens st m
    · subst e
      exact ⟨(h.lens y hy).1, (h.lens y hy).1⟩
  · intro a b
    rw [lp_sync, ld_sync]
    split
    · exact Behind.refl _
    · exact h.up a b
  · intro a
    rw [siteAt_sync]
    split <;> exact h.cap a
  · intro a
    rw [siteAt_sync]
    split
    · exact h.cap a
    · exact h.capD a
  · intro a b
    rw [lp_sync]
    exact h.payP a b
  · intro a b
    rw [ld_sync]
    split
    · exact h.payP a b
    · exact h.payD a b
  · intro a b
    rw [lp_sync]
    exact (h.rcvP a b).trans (l.up b a).sentP
  · intro a b
    rw [lp_sync]
    exact Nat.le_trans (h.ack a b) (l.up b a).rcv
theorem Sites.crash {s : State} (h : Sites s) (x : Nat) : Sites (crashSite s x) ∧ Later s (crashSite s x) := by
  have hn : (crashSite s x).sites.length = s.sites.length := length_updateAt _ _ _
  have l : Later s (crashSite s x) := ⟨hn, fun a b => by rw [ld_crash]; exact Behind.refl _⟩
  refine ⟨⟨by rw [hn]; exact h.few, ?_, ?_, ?_, ?_, ?_, ?_, ?_, ?_⟩, l⟩
  · intro st hst
    rw [hn]
    rcases mem_updateAt _ hst with m | ⟨y, hy, e⟩
    · exact h.lens st m
    · subst e
      exact ⟨(h.lens y hy).2, (h.lens y hy).2⟩
  · intro a b
    rw [lp_crash, ld_crash]
    split
    · exact Behind.refl _
    · exact h.up a b
  · intro a
    rw [siteAt_crash]
    split
    · exact h.capD a
    · exact h.cap a
  · intro a
    rw [siteAt_crash]
    split <;> exact h.capD a
  · intro a b
    rw [lp_crash]
    split
    · exact h.payD a b
    · exact h.payP a b
  · intro a b
    rw [ld_crash]
    exact h.payD a b
  · intro a b
    rw [lp_crash, ld_crash]
    split
    · exact (h.up a b).rcvP.trans (h.rcvP a b)
    · exact h.rcvP a b
  · intro a b
    rw [lp_crash, ld_crash]
    split
    · exact Nat.le_trans (h.up a b).ack (h.ack a b)
    · exact h.ack a b
theorem Sites.syncAll {s : State} (h : Sites s) : Sites (syncAll s) ∧ Later s (syncAll s) := by
  have hn : (Vbxlac.syncAll s).sites.length = s.sites.length := List.length_map _
  have l : Later s (Vbxlac.syncAll s) := ⟨hn, fun a b => by rw [ld_syncAll]; exact h.up a b⟩
  refine ⟨⟨by rw [hn]; exact h.few, ?_, ?_, ?_, ?_, ?_, ?_, ?_, ?_⟩, l⟩
  · intro st hst
    rw [hn]
    obtain ⟨y, hy, e⟩ := List.mem_map.mp hst
    subst e
    exact ⟨(h.lens y hy).1, (h.lens y hy).1⟩
  · intro a b
    rw [lp_syncAll, ld_syncAll]
    exact Behind.refl _
  · intro a
    rw [siteAt_syncAll]
    exact h.cap a
  · intro a
    rw [siteAt_syncAll]
    exact h.cap a
  · intro a b
    rw [lp_syncAll]
    exact h.payP a b
  · intro a b
    rw [ld_syncAll]
    exact h.payP a b
  · intro a b
    rw [lp_syncAll]
    exact (h.rcvP a b).trans (l.up b a).sentP
  · intro a b
    rw [lp_syncAll]
    exact Nat.le_trans (h.ack a b) (l.up b a).rcv

/-- a change of the wires alone -/
theorem Sites.of_sites {s t : State} (h : Sites s) (e : t.sites = s.sites) : Sites t := by
  have e1 : ∀ a, siteAt t a = siteAt s a := by intro a; unfold siteAt; rw [e]
  have e2 : ∀ a b, lp t a b = lp s a b := by intro a b; unfold lp; rw [e1]
  have e3 : ∀ a b, ld t a b = ld s a b := by intro a b; unfold ld; rw [e1]
  refine ⟨by rw [e]; exact h.few, by rw [e]; exact h.lens, ?_, ?_, ?_, ?_, ?_, ?_, ?_⟩
  · intro a b; rw [e2, e3]; exact h.up a b
  · intro a; rw [e1]; exact h.cap a
  · intro a; rw [e1]; exact h.capD a
  · intro a b; rw [e2]; exact h.payP a b
  · intro a b; rw [e3]; exact h.payD a b
  · intro a b; rw [e2, e3]; exact h.rcvP a b
  · intro a b; rw [e2, e3]; exact h.ack a b
theorem later_of_sites {s t : State} (e : t.sites = s.sites) : Later s t :=
  ⟨by rw [e], fun a b => by
    have : ld t a b = ld s a b := by unfold ld siteAt; rw [e]
    rw [this]; exact Behind.refl _⟩

/-- one packet received -/
theorem Sites.receive {s : State} (h : Sites s) {b : Bytes} (hb : BytesOk s b) : Sites (receive s b).1 ∧ Later s (receive s b).1 ∧ (receive s b).1.wires = s.wires ∧ (receive s b).1.duplicated = s.duplicated := by
  unfold Vbxlac.receive
  cases e : readPacket b with
  | none => exact ⟨h, Later.refl s, rfl, rfl⟩
  | some p =>
    obtain ⟨hp, _⟩ := readPacket_some e
    obtain ⟨⟨a1, a2⟩, ⟨a3, a4⟩, _, _, _⟩ := isPacket_iff.mp hp
    obtain ⟨s1, s2⟩ := hb.site p e
    simp only
    have c0 := h.cap p.receiver
    by_cases k : p.kind = 1
    · rw [if_pos k]
      by_cases c : p.number = (linkAt (siteAt s p.receiver).present p.sender).received.length + 1
      · rw [if_pos c]
        refine ⟨h.update (by omega) (by omega) ⟨List.prefix_refl _, Nat.le_refl _, ?_⟩ ?_ (h.payP _ _) ?_ (h.ack _ _), later_update .., rfl, rfl⟩
        · exact List.prefix_append ..
        · simp only; omega
        · have := hb.msg p e k
          rw [show p.number - 1 = (lp s p.receiver p.sender).received.length from by rw [c]; rfl] at this
          exact prefix_snoc (h.rcvP _ _) this
      · rw [if_neg c]
        exact ⟨h, Later.refl s, rfl, rfl⟩
    · rw [if_neg k]
      by_cases c : (linkAt (siteAt s p.receiver).present p.sender).acknowledged < p.number
      · rw [if_pos c]
        refine ⟨h.update (by omega) (by omega) ⟨List.prefix_refl _, Nat.le_of_lt c, List.prefix_refl _⟩ ?_ (h.payP _ _) (h.rcvP _ _) (hb.ack p e k), later_update .., rfl, rfl⟩
        simp only; omega
      · rw [if_neg c]
        exact ⟨h, Later.refl s, rfl, rfl⟩
end Sur
namespace Sur
open Vbxlac
/-! # C. Every call keeps what holds -/

theorem isPay_iff {m : Bytes} : isPayload m = true ↔ isPay m := by
  unfold isPayload isPay maxPayload
  simp [List.all_eq_true]

theorem BytesOk.of_packet {s : State} {p : Packet} (h : isPacket p = true) (h1 : p.sender ≤ s.sites.length) (h2 : p.receiver ≤ s.sites.length)
    (h3 : p.kind = 1 → (ld s p.sender p.receiver).sent[p.number - 1]? = some p.payload) (h4 : p.kind ≠ 1 → p.number ≤ (ld s p.sender p.receiver).received.length) : BytesOk s (writePacket p) := by
  have e : ∀ q, readPacket (writePacket p) = some q → q = p := fun q z => by
    rw [readPacket_write h] at z
    exact (Option.some.inj z).symm
  refine ⟨writePacket_lt h, ?_, fun q z => ?_, fun q z k => ?_, fun q z k => ?_⟩
  · rw [writePacket_length]
    obtain ⟨_, _, _, _, g⟩ := isPacket_iff.mp h
    split
    · rcases g with ⟨_, _, g, _⟩ | ⟨g, _⟩ <;> omega
    · omega
  · rw [e q z]; exact ⟨h1, h2⟩
  · rw [e q z] at k ⊢; exact h3 k
  · rw [e q z] at k ⊢; exact h4 k

theorem WireOk.of_packet {s : State} {p : Packet} (h : isPacket p = true) (h1 : p.sender ≤ s.sites.length) (h2 : p.receiver ≤ s.sites.length)
    (h3 : p.kind = 1 → (ld s p.sender p.receiver).sent[p.number - 1]? = some p.payload) (h4 : p.kind ≠ 1 → p.number ≤ (ld s p.sender p.receiver).received.length) : WireOk s ⟨writePacket p, false⟩ :=
  ⟨.of_packet h h1 h2 h3 h4, (fun z => by cases z), fun _ => ⟨p, readPacket_write h⟩⟩

/-- what transmitting adds -/
theorem transmitted_ok {s : State} (h : Sites s) {a b : Nat} (ha : 1 ≤ a) (ha2 : a ≤ s.sites.length) (hb : 1 ≤ b) (hb2 : b ≤ s.sites.length) (hab : a ≠ b) :
    ∀ p ∈ transmittedPackets s a b, isPacket p = true ∧ p.sender = a ∧ p.receiver = b ∧ (p.kind = 1 → (ld s a b).sent[p.number - 1]? = some p.payload) ∧ (p.kind ≠ 1 → p.number = (ld s a b).received.length) := by
  have few := h.few
  intro p hp
  unfold transmittedPackets at hp
  simp only [List.mem_append, List.mem_map, List.mem_cons, List.not_mem_nil, or_false] at hp
  rcases hp with ⟨m, hm, e⟩ | e
  · have hm := List.mem_of_mem_drop hm
    obtain ⟨m1, m2⟩ := m
    rw [List.mem_zipIdx_iff_le_and_getElem?_sub] at hm
    obtain ⟨g1, g2⟩ := hm
    have g3 := (List.getElem?_eq_some_iff.mp g2).1
    have g4 : (ld s a b).sent.length ≤ 60 := h.sentD60 a b
    have g5 := h.payD a b m1 (List.mem_of_getElem? g2)
    have g3' : m2 - 1 < (ld s a b).sent.length := g3
    subst e
    refine ⟨isPacket_iff.mpr ⟨⟨ha, Nat.le_trans ha2 few⟩, ⟨hb, Nat.le_trans hb2 few⟩, hab, ?_, .inl ⟨rfl, g1, g5.1, g5.2⟩⟩, rfl, rfl, fun _ => ?_, fun z => absurd rfl z⟩
    · show m2 ≤ 60
      omega
    · exact g2
  · subst e
    have g4 : (ld s a b).received.length ≤ 60 := h.recD60 a b
    exact ⟨isPacket_iff.mpr ⟨⟨ha, Nat.le_trans ha2 few⟩, ⟨hb, Nat.le_trans hb2 few⟩, hab, g4, .inr ⟨rfl, rfl⟩⟩, rfl, rfl, fun z => (by cases z), fun _ => rfl⟩

theorem transmitted_length {s : State} (h : Sites s) (a b : Nat) : (transmittedPackets s a b).length = (ld s a b).sent.length - (ld s a b).acknowledged + 1 ∧ (transmittedPackets s a b).length ≤ 61 := by
  have e : (transmittedPackets s a b).length = (ld s a b).sent.length - (ld s a b).acknowledged + 1 := by
    unfold transmittedPackets
    simp only [List.length_append, List.length_map, List.length_drop, List.length_zipIdx, List.length_cons, List.length_nil]
    rfl
  exact ⟨e, by have := h.sentD60 a b; omega⟩

theorem transmit_sites (s : State) (a b : Nat) : (Vbxlac.transmit s a b).sites = s.sites := rfl

theorem transmit_wires {s : State} (h : Sites s) {a b : Nat} (ha : 1 ≤ a) (ha2 : a ≤ s.sites.length) (hb : 1 ≤ b) (hb2 : b ≤ s.sites.length) (hab : a ≠ b)
    (hw : ∀ w ∈ s.wires, WireOk s w) : (∀ w ∈ (Vbxlac.transmit s a b).wires, WireOk (Vbxlac.transmit s a b) w) ∧ (Vbxlac.transmit s a b).wires.length ≤ s.wires.length + 61 := by
  have l : Later s (Vbxlac.transmit s a b) := later_of_sites rfl
  constructor
  · intro w hm
    have hm' : w ∈ s.wires ++ (transmittedPackets s a b).map fun p => (⟨writePacket p, false⟩ : WirePacket) := hm
    rw [List.mem_append] at hm'
    rcases hm' with hm' | hm'
    · exact (hw w hm').later l
    · obtain ⟨p, hp, e⟩ := List.mem_map.mp hm'
      subst e
      obtain ⟨q1, q2, q3, q4, q5⟩ := transmitted_ok h ha ha2 hb hb2 hab p hp
      refine WireOk.later (.of_packet q1 (by omega) (by omega) ?_ ?_) l
      · rw [q2, q3]; exact q4
      · rw [q2, q3]; exact fun k => Nat.le_of_eq (q5 k)
  · show (s.wires ++ (transmittedPackets s a b).map fun p => (⟨writePacket p, false⟩ : WirePacket)).length ≤ _
    rw [List.length_append, List.length_map]
    have := (transmitted_length h a b).2
    omega

/-- one turn of delivering all -/
def delTurn (x : State × Nat × Nat) (b : Bytes) : State × Nat × Nat :=
  ((receive x.1 b).1, x.2.1 + (if (receive x.1 b).2.1 = 1 then 1 else 0), x.2.2 + (if (receive x.1 b).2.1 = 4 then 1 else 0))

theorem deliverAll_eq (s : State) : deliverAll s = (s.wires.map (·.bytes)).foldl delTurn ({ s with wires := [] }, 0, 0) := by
  unfold deliverAll
  rw [List.foldl_map]
  rfl

theorem delTurns : ∀ (bs : List Bytes) {x : State × Nat × Nat}, Sites x.1 → (∀ b ∈ bs, BytesOk x.1 b) →
    Sites (bs.foldl delTurn x).1 ∧ Later x.1 (bs.foldl delTurn x).1 ∧ (bs.foldl delTurn x).1.wires = x.1.wires ∧ (bs.foldl delTurn x).1.duplicated = x.1.duplicated ∧
      (bs.foldl delTurn x).2.1 ≤ x.2.1 + bs.length ∧ (bs.foldl delTurn x).2.2 ≤ x.2.2 + bs.length
  | [], x, h, _ => ⟨h, Later.refl _, rfl, rfl, Nat.le_refl _, Nat.le_refl _⟩
  | b :: bs, x, h, hb => by
    obtain ⟨h1, h2, h3, h4⟩ := h.receive (hb b (List.mem_cons_self ..))
    obtain ⟨g1, g2, g3, g4, g5, g6⟩ := delTurns bs (x := delTurn x b) h1 fun c hc => (hb c (List.mem_cons_of_mem _ hc)).later h2
    rw [List.foldl_cons]
    refine ⟨g1, h2.trans g2, g3.trans h3, g4.trans h4, Nat.le_trans g5 ?_, Nat.le_trans g6 ?_⟩
    · show x.2.1 + (if (receive x.1 b).2.1 = 1 then 1 else 0) + bs.length ≤ _
      rw [List.length_cons]
      split <;> omega
    · show x.2.2 + (if (receive x.1 b).2.1 = 4 then 1 else 0) + bs.length ≤ _
      rw [List.length_cons]
      split <;> omega

theorem deliverAll_ok {s : State} (h : Sites s) (hw : ∀ w ∈ s.wires, WireOk s w) :
    Sites (deliverAll s).1 ∧ Later s (deliverAll s).1 ∧ (deliverAll s).1.wires = [] ∧ (deliverAll s).1.duplicated = s.duplicated ∧ (deliverAll s).2.1 ≤ s.wires.length ∧ (deliverAll s).2.2 ≤ s.wires.length := by
  rw [deliverAll_eq]
  have h0 : Sites ({ s with wires := [] } : State) := h.of_sites rfl
  have l0 : Later s ({ s with wires := [] } : State) := later_of_sites rfl
  obtain ⟨g1, g2, g3, g4, g5, g6⟩ := delTurns (s.wires.map (·.bytes)) (x := ({ s with wires := [] }, 0, 0)) h0 fun b hb => by
    obtain ⟨w, m, e⟩ := List.mem_map.mp hb
    subst e
    exact (hw w m).ok.later l0
  rw [List.length_map] at g5 g6
  exact ⟨g1, l0.trans g2, g3, g4, by simpa using g5, by simpa using g6⟩

/-- what an exchange's second half keeps: no packets on the wires between two of its pairs -/
theorem exchangePair_ok {x : State × Nat × Nat} (h : Sites x.1) (hw : x.1.wires = []) {a b : Nat} (ha : 1 ≤ a) (ha2 : a ≤ x.1.sites.length) (hb : 1 ≤ b) (hb2 : b ≤ x.1.sites.length) (hab : a ≠ b) :
    Sites (exchangePair x (a, b)).1 ∧ Later x.1 (exchangePair x (a, b)).1 ∧ (exchangePair x (a, b)).1.wires = [] ∧ (exchangePair x (a, b)).1.duplicated = x.1.duplicated ∧
      (exchangePair x (a, b)).2.1 ≤ x.2.1 + 61 ∧ (exchangePair x (a, b)).2.2 ≤ x.2.2 + 61 := by
  have h1 : Sites (Vbxlac.transmit x.1 a b) := h.of_sites rfl
  obtain ⟨w1, w2⟩ := transmit_wires h ha ha2 hb hb2 hab (by rw [hw]; intro w z; cases z)
  rw [hw] at w2
  obtain ⟨g1, g2, g3, g4, g5, g6⟩ := deliverAll_ok h1 w1
  refine ⟨g1, (later_of_sites (transmit_sites ..)).trans g2, g3, g4, ?_, ?_⟩
  · show x.2.1 + (deliverAll (Vbxlac.transmit x.1 a b)).2.1 ≤ _
    simp only [List.length_nil] at w2
    omega
  · show x.2.2 + (deliverAll (Vbxlac.transmit x.1 a b)).2.2 ≤ _
    simp only [List.length_nil] at w2
    omega

theorem exchangePairs_ok : ∀ (ps : List (Nat × Nat)) {x : State × Nat × Nat}, Sites x.1 → x.1.wires = [] → (∀ p ∈ ps, 1 ≤ p.1 ∧ p.1 ≤ x.1.sites.length ∧ 1 ≤ p.2 ∧ p.2 ≤ x.1.sites.length ∧ p.1 ≠ p.2) →
    Sites (ps.foldl exchangePair x).1 ∧ Later x.1 (ps.foldl exchangePair x).1 ∧ (ps.foldl exchangePair x).1.wires = [] ∧ (ps.foldl exchangePair x).1.duplicated = x.1.duplicated ∧
      (ps.foldl exchangePair x).2.1 ≤ x.2.1 + 61 * ps.length ∧ (ps.foldl exchangePair x).2.2 ≤ x.2.2 + 61 * ps.length
  | [], x, h, hw, _ => ⟨h, Later.refl _, hw, rfl, Nat.le_refl _, Nat.le_refl _⟩
  | (a, b) :: ps, x, h, hw, hp => by
    obtain ⟨q1, q2, q3, q4, q5⟩ := hp (a, b) (List.mem_cons_self ..)
    obtain ⟨h1, h2, h3, h4, h5, h6⟩ := exchangePair_ok h hw q1 q2 q3 q4 q5
    simp only at h1 h2 h3 h4 h5 h6
    obtain ⟨g1, g2, g3, g4, g5, g6⟩ := exchangePairs_ok ps (x := exchangePair x (a, b)) h1 h3 fun p m => by
      rw [h2.n]
      exact hp p (List.mem_cons_of_mem _ m)
    rw [List.foldl_cons, List.length_cons]
    exact ⟨g1, h2.trans g2, g3, g4.trans h4, by omega, by omega⟩

theorem siteNumbers_mem {s : State} {x : Nat} : x ∈ siteNumbers s ↔ 1 ≤ x ∧ x ≤ s.sites.length := by
  unfold siteNumbers
  simp only [List.mem_map, List.mem_range]
  constructor
  · rintro ⟨i, h, e⟩; omega
  · rintro ⟨h1, h2⟩; exact ⟨x - 1, by omega, by omega⟩

theorem sitePairs_mem {s : State} {p : Nat × Nat} (h : p ∈ sitePairs s) : 1 ≤ p.1 ∧ p.1 ≤ s.sites.length ∧ 1 ≤ p.2 ∧ p.2 ≤ s.sites.length ∧ p.1 ≠ p.2 := by
  unfold sitePairs at h
  simp only [List.mem_flatMap, List.mem_map, List.mem_filter, bne_iff_ne, ne_eq] at h
  obtain ⟨a, ha, b, ⟨hb, hne⟩, e⟩ := h
  subst e
  have ha := siteNumbers_mem.mp ha
  have hb := siteNumbers_mem.mp hb
  exact ⟨ha.1, ha.2, hb.1, hb.2, fun z => hne z.symm⟩

theorem exchange_ok {s : State} (h : Sites s) (hw : ∀ w ∈ s.wires, WireOk s w) :
    Sites (Vbxlac.exchange s).1 ∧ Later s (Vbxlac.exchange s).1 ∧ (Vbxlac.exchange s).1.wires = [] ∧ (Vbxlac.exchange s).1.duplicated = s.duplicated := by
  obtain ⟨a1, a2, a3, a4, _, _⟩ := deliverAll_ok h hw
  obtain ⟨b1, b2⟩ := a1.syncAll
  have n1 : (Vbxlac.syncAll (deliverAll s).1).sites.length = s.sites.length := b2.n.trans a2.n
  obtain ⟨c1, c2, c3, c4, _, _⟩ := exchangePairs_ok (sitePairs s) (x := (Vbxlac.syncAll (deliverAll s).1, (deliverAll s).2)) b1 a3 fun p m => by
    rw [n1]
    exact sitePairs_mem m
  obtain ⟨d1, d2⟩ := c1.syncAll
  exact ⟨d1, ((a2.trans b2).trans c2).trans d2, c3, c4.trans a4⟩

/-! ## the calls -/
theorem Good.start : Good 0 Vbxlac.start := by
  have e : ∀ a, siteAt Vbxlac.start a = ⟨[], []⟩ := fun a => by unfold siteAt Vbxlac.start; rfl
  have e1 : ∀ a b, lp Vbxlac.start a b = emptyLink := fun a b => by unfold lp; rw [e]; rfl
  have e2 : ∀ a b, ld Vbxlac.start a b = emptyLink := fun a b => by unfold ld; rw [e]; rfl
  refine ⟨⟨Nat.zero_le _, (by intro st z; cases z), ?_, ?_, ?_, ?_, ?_, ?_, ?_⟩, (by intro w z; cases z), Nat.le_refl _, fun _ => rfl⟩
  · intro a b; rw [e1, e2]; exact Behind.refl _
  · intro a; rw [e]; exact Nat.zero_le _
  · intro a; rw [e]; exact Nat.zero_le _
  · intro a b m z; rw [e1] at z; cases z
  · intro a b m z; rw [e2] at z; cases z
  · intro a b; rw [e1, e2]; exact List.prefix_refl _
  · intro a b; rw [e1, e2]; exact Nat.le_refl _

theorem Good.mono {j k : Nat} {s : State} (h : Good j s) (l : j ≤ k) : Good k s := ⟨h.sites, h.wires, Nat.le_trans h.room (Nat.mul_le_mul_left _ l), h.none⟩

theorem Good.more {k : Nat} {s t : State} (h : Sites t) (l : Later s t) (hn : s.sites ≠ []) (hw : ∀ w ∈ t.wires, WireOk t w) (hr : t.wires.length ≤ 61 * k) : Good k t :=
  ⟨h, hw, hr, fun z => by
    have := l.n
    rw [z] at this
    exact absurd (List.eq_nil_of_length_eq_zero this.symm) hn⟩

/-- the sites of create_sites -/
theorem Good.create {k : Nat} {s : State} {n : Nat} (h : Good k s) (hs : s.sites = []) (hn : 1 ≤ n) (hn4 : n ≤ 4) :
    Good k { s with sites := List.replicate n ⟨List.replicate n emptyLink, List.replicate n emptyLink⟩ } := by
  have hw := h.none hs
  have ln : ∀ b, linkAt (List.replicate n emptyLink) b = emptyLink := fun b => by
    unfold linkAt
    rw [List.getElem?_replicate]
    split <;> rfl
  have sz : sentCount (List.replicate n emptyLink) = 0 := by
    unfold sentCount
    rw [List.map_replicate]
    simp [emptyLink]
  generalize ht : ({ s with sites := List.replicate n ⟨List.replicate n emptyLink, List.replicate n emptyLink⟩ } : State) = t
  have hts : t.sites = List.replicate n ⟨List.replicate n emptyLink, List.replicate n emptyLink⟩ := by rw [← ht]
  have htw : t.wires = [] := by rw [← ht]; exact hw
  have e : ∀ a, siteAt t a = ⟨List.replicate n emptyLink, List.replicate n emptyLink⟩ ∨ siteAt t a = ⟨[], []⟩ := fun a => by
    unfold siteAt
    rw [hts, List.getElem?_replicate]
    split
    · exact .inl rfl
    · exact .inr rfl
  have e1 : ∀ a b, lp t a b = emptyLink := fun a b => by
    unfold lp
    rcases e a with e | e <;> rw [e]
    · exact ln b
    · rfl
  have e2 : ∀ a b, ld t a b = emptyLink := fun a b => by
    unfold ld
    rcases e a with e | e <;> rw [e]
    · exact ln b
    · rfl
  have tl : t.sites.length = n := by rw [hts, List.length_replicate]
  refine ⟨⟨by omega, ?_, ?_, ?_, ?_, ?_, ?_, ?_, ?_⟩, (by rw [htw]; intro w z; cases z), (by rw [htw]; exact Nat.zero_le _), fun _ => htw⟩
  · intro st z
    rw [tl]
    rw [hts] at z
    rw [List.eq_of_mem_replicate z]
    simp
  · intro a b; rw [e1, e2]; exact Behind.refl _
  · intro a; rcases e a with e | e <;> rw [e]
    · rw [sz]; exact Nat.zero_le _
    · exact Nat.zero_le _
  · intro a; rcases e a with e | e <;> rw [e]
    · rw [sz]; exact Nat.zero_le _
    · exact Nat.zero_le _
  · intro a b m z; rw [e1] at z; cases z
  · intro a b m z; rw [e2] at z; cases z
  · intro a b; rw [e1, e2]; exact List.prefix_refl _
  · intro a b; rw [e1, e2]; exact Nat.le_refl _

/-! ### the guards -/
theorem isSite_iff {n : Int} : isSite n = true ↔ 1 ≤ n ∧ n ≤ 4 := by
  unfold isSite inRange maxSites
  simp

theorem areBytes_iff {l : List Int} {m : Nat} : areBytes l m = true ↔ l.length ≤ m ∧ ∀ b ∈ l, 0 ≤ b ∧ b ≤ 255 := by
  unfold areBytes inRange
  simp [List.all_eq_true]

theorem toBytes_pay {l : List Int} (h : areBytes l 16 = true) : isPay (toBytes l) := by
  obtain ⟨h1, h2⟩ := areBytes_iff.mp h
  refine ⟨?_, fun b hb => ?_⟩
  · unfold toBytes; rw [List.length_map]; exact h1
  · unfold toBytes at hb
    obtain ⟨x, hx, e⟩ := List.mem_map.mp hb
    have := h2 x hx
    omega

theorem withSites_ok {s : State} {valid : Bool} {xs : List Int} {f : Unit → Result} {t : State} {r : List Int} (h : withSites s valid xs f = .ok (t, r)) :
    s.sites ≠ [] ∧ valid = true ∧ (∀ x ∈ xs, x ≤ (s.sites.length : Int)) ∧ f () = .ok (t, r) := by
  unfold withSites at h
  split at h
  · cases h
  · rename_i c
    split at h
    · cases h
    · rename_i d
      split at h
      · cases h
      · rename_i e
        refine ⟨fun z => c (by rw [z]; rfl), by simpa using d, fun x hx => ?_, h⟩
        simp only [List.any_eq_true, decide_eq_true_eq, not_exists, not_and, Int.not_lt] at e
        exact e x hx

theorem withPair_ok {s : State} {valid : Bool} {a b : Int} {f : Nat → Nat → Result} {t : State} {r : List Int} (h : withPair s valid a b f = .ok (t, r)) :
    s.sites ≠ [] ∧ valid = true ∧ 1 ≤ a.toNat ∧ a.toNat ≤ s.sites.length ∧ 1 ≤ b.toNat ∧ b.toNat ≤ s.sites.length ∧ a.toNat ≠ b.toNat ∧ f a.toNat b.toNat = .ok (t, r) := by
  unfold withPair at h
  obtain ⟨h1, h2, h3, h4⟩ := withSites_ok h
  simp only [Bool.and_eq_true, isSite_iff] at h2
  have ha := h3 a (by simp)
  have hb := h3 b (by simp)
  split at h4
  · cases h4
  · rename_i c
    exact ⟨h1, h2.2.2, by omega, by omega, by omega, by omega, by omega, h4⟩

theorem withPacket_ok {s : State} {valid : Bool} {i : Int} {f : Nat → WirePacket → Result} {t : State} {r : List Int} (h : withPacket s valid i f = .ok (t, r)) :
    s.sites ≠ [] ∧ valid = true ∧ ∃ w, 0 ≤ i ∧ s.wires[i.toNat]? = some w ∧ f i.toNat w = .ok (t, r) := by
  unfold withPacket at h
  obtain ⟨h1, h2, _, h4⟩ := withSites_ok h
  refine ⟨h1, h2, ?_⟩
  split at h4
  · cases h4
  · rename_i w e
    split at e
    · cases e
    · rename_i c
      exact ⟨w, by omega, e, h4⟩

theorem mem_set_of {α : Type} {l : List α} {i : Nat} {x y : α} (h : y ∈ l.set i x) : y ∈ l ∨ y = x := List.mem_or_eq_of_mem_set h

/-- one call keeps what holds -/
theorem Good.perform {k : Nat} {s : State} (h : Good k s) (c : Vbxlac.Call) {t : State} {r : List Int} (e : Vbxlac.perform s c = .ok (t, r)) : Good (k + 1) t := by
  have stay : t = s → Good (k + 1) t := fun z => by rw [z]; exact h.mono (by omega)
  cases c with
  | createSites count =>
    simp only [Vbxlac.perform] at e
    split at e
    · cases e
    · rename_i c1
      split at e
      · cases e
      · rename_i c2
        have c1' : s.sites = [] := by simpa using c1
        have c2' : 2 ≤ count ∧ count ≤ 4 := by
          have : inRange count 2 (maxSites : Int) = true := by simpa using c2
          unfold inRange maxSites at this
          simpa using this
        cases e
        exact (h.create c1' (by omega) (by omega)).mono (by omega)
  | post a b p =>
    simp only [Vbxlac.perform] at e
    obtain ⟨h1, h2, ha1, ha2, hb1, hb2, hab, e⟩ := withPair_ok e
    split at e
    · cases e
    · rename_i c
      cases e
      have c' : sentCount (siteAt s a.toNat).present < 60 := by unfold maxPosts at c; omega
      refine .more (h.sites.update (by omega) (by omega) ⟨?_, Nat.le_refl _, List.prefix_refl _⟩ ?_ ?_ (h.sites.rcvP _ _) (h.sites.ack _ _)) (later_update ..) h1 (fun w m => (h.wires w m).later (later_update ..)) ?_
      · exact List.prefix_append ..
      · simp only [List.length_append, List.length_cons, List.length_nil]; omega
      · intro m hm
        simp only [List.mem_append, List.mem_cons, List.not_mem_nil, or_false] at hm
        rcases hm with hm | hm
        · exact h.sites.payP _ _ m hm
        · rw [hm]; exact toBytes_pay h2
      · have := h.room
        show s.wires.length ≤ _
        omega
  | sync x =>
    simp only [Vbxlac.perform] at e
    obtain ⟨h1, h2, h3, e⟩ := withSites_ok e
    cases e
    obtain ⟨g, l⟩ := h.sites.sync x.toNat
    exact .more g l h1 (fun w m => (h.wires w m).later l) (by have := h.room; show s.wires.length ≤ _; omega)
  | crash x =>
    simp only [Vbxlac.perform] at e
    obtain ⟨h1, h2, h3, e⟩ := withSites_ok e
    cases e
    obtain ⟨g, l⟩ := h.sites.crash x.toNat
    exact .more g l h1 (fun w m => (h.wires w m).later l) (by have := h.room; show s.wires.length ≤ _; omega)
  | atRisk x =>
    simp only [Vbxlac.perform] at e
    obtain ⟨h1, h2, h3, e⟩ := withSites_ok e
    cases e
    exact stay rfl
  | transmit a b =>
    simp only [Vbxlac.perform] at e
    obtain ⟨h1, h2, ha1, ha2, hb1, hb2, hab, e⟩ := withPair_ok e
    split at e
    · cases e
    · cases e
      obtain ⟨g1, g2⟩ := transmit_wires h.sites ha1 ha2 hb1 hb2 hab h.wires
      exact .more (h.sites.of_sites rfl) (later_of_sites rfl) h1 g1 (by have := h.room; omega)
  | deliver i =>
    simp only [Vbxlac.perform] at e
    obtain ⟨h1, h2, w, hi, hw, e⟩ := withPacket_ok e
    cases e
    have l0 : Later s { s with wires := s.wires.eraseIdx i.toNat } := later_of_sites rfl
    obtain ⟨g1, g2, g3, _⟩ := (h.sites.of_sites (t := { s with wires := s.wires.eraseIdx i.toNat }) rfl).receive ((h.wires w (List.mem_of_getElem? hw)).ok.later l0)
    refine .more g1 (l0.trans g2) h1 ?_ ?_
    · rw [g3]
      exact fun u m => (h.wires u (List.mem_of_mem_eraseIdx m)).later (l0.trans g2)
    · rw [g3]
      have := h.room
      have q := List.length_eraseIdx_le s.wires i.toNat
      show (s.wires.eraseIdx i.toNat).length ≤ _
      omega
  | lose i =>
    simp only [Vbxlac.perform] at e
    obtain ⟨h1, h2, w, hi, hw, e⟩ := withPacket_ok e
    cases e
    have l0 : Later s { s with wires := s.wires.eraseIdx i.toNat } := later_of_sites rfl
    refine .more (h.sites.of_sites rfl) l0 h1 (fun u m => (h.wires u (List.mem_of_mem_eraseIdx m)).later l0) ?_
    have := h.room
    have q := List.length_eraseIdx_le s.wires i.toNat
    show (s.wires.eraseIdx i.toNat).length ≤ _
    omega
  | duplicate i =>
    simp only [Vbxlac.perform] at e
    obtain ⟨h1, h2, w, hi, hw, e⟩ := withPacket_ok e
    split at e
    · cases e
    · cases e
      have l0 : Later s { s with wires := s.wires ++ [w], duplicated := s.duplicated + 1 } := later_of_sites rfl
      refine .more (h.sites.of_sites rfl) l0 h1 (fun u m => ?_) ?_
      · have m' : u ∈ s.wires ++ [w] := m
        rw [List.mem_append, List.mem_singleton] at m'
        rcases m' with m' | m'
        · exact (h.wires u m').later l0
        · rw [m']; exact (h.wires w (List.mem_of_getElem? hw)).later l0
      · have := h.room
        show (s.wires ++ [w]).length ≤ _
        rw [List.length_append, List.length_singleton]
        omega
  | damage i pos v =>
    simp only [Vbxlac.perform] at e
    obtain ⟨h1, h2, w, hi, hw, e⟩ := withPacket_ok e
    split at e
    · cases e
    · rename_i old ho
      split at e
      · cases e
      · rename_i c
        cases e
        have ho' : w.bytes[pos.toNat]? = some old := by
          split at ho
          · cases ho
          · exact ho
        have c1 : w.damaged = false := by
          cases q : w.damaged with
          | true => exact absurd (Or.inl q) c
          | false => rfl
        have c2 : toInt old ≠ v := fun z => c (.inr z)
        have hv : 0 ≤ v ∧ v ≤ 255 := by
          unfold inRange at h2
          simpa using h2
        have ok := h.wires w (List.mem_of_getElem? hw)
        obtain ⟨p, hp⟩ := ok.whole c1
        have none := readPacket_set hp ho' (v := v.toNat) (by unfold toInt at c2; omega) (by omega)
        have l0 : Later s { s with wires := s.wires.set i.toNat ⟨w.bytes.set pos.toNat v.toNat, true⟩ } := later_of_sites rfl
        refine .more (h.sites.of_sites rfl) l0 h1 (fun u m => ?_) ?_
        · rcases mem_set_of m with m | m
          · exact (h.wires u m).later l0
          · subst m
            refine ⟨⟨fun x hx => ?_, ?_, ?_, ?_, ?_⟩, fun _ => none, fun z => by cases z⟩
            · rcases mem_set_of hx with hx | hx
              · exact ok.ok.lt x hx
              · omega
            · show (w.bytes.set pos.toNat v.toNat).length ≤ 25
              rw [List.length_set]
              exact ok.ok.len
            · intro q z; simp only [none] at z; cases z
            · intro q z; simp only [none] at z; cases z
            · intro q z; simp only [none] at z; cases z
        · have := h.room
          show (s.wires.set i.toNat _).length ≤ _
          rw [List.length_set]
          omega
  | received a b f c =>
    simp only [Vbxlac.perform] at e
    obtain ⟨h1, h2, ha1, ha2, hb1, hb2, hab, e⟩ := withPair_ok e
    cases e
    exact stay rfl
  | linkState a b c =>
    simp only [Vbxlac.perform] at e
    obtain ⟨h1, h2, ha1, ha2, hb1, hb2, hab, e⟩ := withPair_ok e
    cases e
    exact stay rfl
  | unsettled a b =>
    simp only [Vbxlac.perform] at e
    obtain ⟨h1, h2, ha1, ha2, hb1, hb2, hab, e⟩ := withPair_ok e
    cases e
    exact stay rfl
  | listPackets =>
    simp only [Vbxlac.perform] at e
    obtain ⟨h1, h2, h3, e⟩ := withSites_ok e
    cases e
    exact stay rfl
  | packetBytes i =>
    simp only [Vbxlac.perform] at e
    obtain ⟨h1, h2, w, hi, hw, e⟩ := withPacket_ok e
    cases e
    exact stay rfl
  | writePacket kd a b n p =>
    simp only [Vbxlac.perform] at e
    repeat' split at e
    all_goals first | (cases e; done) | (cases e; exact stay rfl)
  | readPacket b =>
    simp only [Vbxlac.perform] at e
    split at e
    · cases e
    · cases e
      exact stay rfl
  | exchange =>
    simp only [Vbxlac.perform] at e
    obtain ⟨h1, h2, h3, e⟩ := withSites_ok e
    cases e
    obtain ⟨g1, g2, g3, _⟩ := exchange_ok h.sites h.wires
    refine .more g1 g2 h1 ?_ ?_
    · rw [g3]; intro w z; cases z
    · rw [g3]; exact Nat.zero_le _
  | isSettled =>
    simp only [Vbxlac.perform] at e
    obtain ⟨h1, h2, h3, e⟩ := withSites_ok e
    cases e
    exact stay rfl
  | totals =>
    simp only [Vbxlac.perform] at e
    obtain ⟨h1, h2, h3, e⟩ := withSites_ok e
    cases e
    exact stay rfl

theorem Good.step {k : Nat} {s : State} (h : Good k s) (c : List (List Int)) : Good (k + 1) (Vbxlac.step s c).1 := by
  unfold Vbxlac.step
  cases Vbxlac.decode c with
  | none => exact h.mono (by omega)
  | some c =>
    simp only
    cases e : Vbxlac.perform s c with
    | error z => exact h.mono (by omega)
    | ok z => exact h.perform c e
end Sur
namespace Sur
open Vbxlac
/-! # D. The exchange by turns: pure -/

/-- what a site does with a packet doesn't look at the wires -/
theorem receive_wires (s : State) (w : List WirePacket) (b : Bytes) : receive { s with wires := w } b = ({ (receive s b).1 with wires := w }, (receive s b).2) := by
  unfold receive
  cases readPacket b with
  | none => rfl
  | some p =>
    simp only
    have e : siteAt { s with wires := w } p.receiver = siteAt s p.receiver := rfl
    rw [e]
    by_cases hk : p.kind = 1
    · rw [if_pos hk, if_pos hk]
      split <;> rfl
    · rw [if_neg hk, if_neg hk]
      split <;> rfl
theorem receive_wires_same (s : State) (b : Bytes) : (receive s b).1.wires = s.wires := by
  have e := receive_wires s s.wires b
  have e2 : ({ s with wires := s.wires } : State) = s := rfl
  rw [e2] at e
  have e3 := congrArg (fun x => x.1.wires) e
  exact e3
theorem receive_sites_len (s : State) (b : Bytes) : (receive s b).1.sites.length = s.sites.length := by
  unfold receive
  cases readPacket b with
  | none => rfl
  | some p =>
    simp only
    split
    · split
      · exact length_updateAt _ _ _
      · rfl
    · split
      · exact length_updateAt _ _ _
      · rfl
/-- behind i packets of s, delivered one by one from the front: the state, the numbers of the outcomes 1 and 4 -/
def delAt (s : State) (i : Nat) : State × Nat × Nat :=
  let x := ((s.wires.take i).map (·.bytes)).foldl delTurn ({ s with wires := [] }, 0, 0)
  ({ x.1 with wires := s.wires.drop i }, x.2)
theorem delTurn_wires (x : State × Nat × Nat) (b : Bytes) : (delTurn x b).1.wires = x.1.wires := receive_wires_same x.1 b
theorem delTurns_wires : ∀ (bs : List Bytes) (x : State × Nat × Nat), (bs.foldl delTurn x).1.wires = x.1.wires
  | [], _ => rfl
  | b :: bs, x => (delTurns_wires bs (delTurn x b)).trans (delTurn_wires x b)
theorem delAt_zero (s : State) : delAt s 0 = (s, 0, 0) := by
  unfold delAt
  simp
theorem delAt_all (s : State) : delAt s s.wires.length = deliverAll s := by
  unfold delAt
  rw [deliverAll_eq, List.take_length, List.drop_length]
  have h := delTurns_wires (s.wires.map (·.bytes)) ({ s with wires := [] }, 0, 0)
  generalize hx : (s.wires.map (·.bytes)).foldl delTurn ({ s with wires := [] }, 0, 0) = x at h ⊢
  obtain ⟨t, p⟩ := x
  have h' : t.wires = [] := h
  simp only
  congr 1
  cases t
  simp only at h'
  rw [h']
/-- the next one: taken off the front, received -/
theorem delAt_next {s : State} {i : Nat} {w : WirePacket} (h : s.wires[i]? = some w) :
    delAt s (i + 1) = ((receive { (delAt s i).1 with wires := s.wires.drop (i + 1) } w.bytes).1, (delAt s i).2.1 + (if (receive { (delAt s i).1 with wires := s.wires.drop (i + 1) } w.bytes).2.1 = 1 then 1 else 0), (delAt s i).2.2 + (if (receive { (delAt s i).1 with wires := s.wires.drop (i + 1) } w.bytes).2.1 = 4 then 1 else 0)) := by
  unfold delAt
  have e : s.wires.take (i + 1) = s.wires.take i ++ [w] := by rw [List.take_add_one, h] <;> rfl
  rw [e, List.map_append, List.foldl_append]
  simp only [List.map_cons, List.map_nil, List.foldl_cons, List.foldl_nil]
  generalize ((s.wires.take i).map (·.bytes)).foldl delTurn ({ s with wires := [] }, 0, 0) = x
  unfold delTurn
  have r := receive_wires x.1 (s.wires.drop (i + 1)) w.bytes
  rw [r]
theorem delAt_wires (s : State) (i : Nat) : (delAt s i).1.wires = s.wires.drop i := rfl
theorem delAt_pop {s : State} {i : Nat} {w : WirePacket} (h : s.wires[i]? = some w) : (delAt s i).1.wires[0]? = some w ∧ ({ (delAt s i).1 with wires := s.wires.drop (i + 1) } : State) = { (delAt s i).1 with wires := (delAt s i).1.wires.eraseIdx 0 } := by
  constructor
  · rw [delAt_wires, List.getElem?_drop]
    exact h
  · congr 1
    rw [delAt_wires, List.eraseIdx_zero, List.tail_drop]
/-- the first i sites synced -/
def syncN (s : State) (i : Nat) : State := { s with sites := s.sites.mapIdx fun j site => if j < i then { site with durable := site.present } else site }
theorem syncN_zero (s : State) : syncN s 0 = s := by
  unfold syncN
  have : s.sites.mapIdx (fun j site => if j < 0 then { site with durable := site.present } else site) = s.sites := by
    apply List.ext_getElem?
    intro j
    rw [List.getElem?_mapIdx]
    cases s.sites[j]? <;> simp
  rw [this]
theorem syncN_len (s : State) (i : Nat) : (syncN s i).sites.length = s.sites.length := List.length_mapIdx
theorem syncN_next (s : State) (i : Nat) : syncSite (syncN s i) (i + 1) = syncN s (i + 1) := by
  unfold syncSite syncN
  simp only
  congr 1
  apply List.ext_getElem?
  intro j
  rw [getElem?_updateAt, List.getElem?_mapIdx, List.getElem?_mapIdx]
  by_cases hj : j = i
  · subst hj
    rw [if_pos (by omega)]
    cases s.sites[j]? with
    | none => rfl
    | some x => simp
  · rw [if_neg (by omega)]
    cases s.sites[j]? with
    | none => rfl
    | some x =>
      simp only [Option.map_some]
      by_cases hl : j < i
      · rw [if_pos hl, if_pos (by omega)]
      · rw [if_neg hl, if_neg (by omega)]
theorem syncN_all {s : State} {i : Nat} (h : s.sites.length ≤ i) : syncN s i = syncAll s := by
  unfold syncN syncAll
  congr 1
  apply List.ext_getElem?
  intro j
  rw [List.getElem?_mapIdx, List.getElem?_map]
  by_cases hj : j < s.sites.length
  · rw [List.getElem?_eq_getElem hj]
    simp only [Option.map_some]
    rw [if_pos (by omega)]
  · rw [List.getElem?_eq_none (by omega)]
    rfl
/-- the pairs by two loops -/
theorem foldl_pairs {α : Type} (f : α → Nat × Nat → α) (s : State) (x : α) : (sitePairs s).foldl f x =
    (List.range s.sites.length).foldl (fun x i => (List.range s.sites.length).foldl (fun x j => if j = i then x else f x (i + 1, j + 1)) x) x := by
  have inner : ∀ (a : Nat) (l : List Nat) (x : α), (((l.map fun j => j + 1).filter fun b => b != a + 1).map fun b => (a + 1, b)).foldl f x = l.foldl (fun x j => if j = a then x else f x (a + 1, j + 1)) x := by
    intro a l
    induction l with
    | nil => intro x; rfl
    | cons j l ih =>
      intro x
      simp only [List.map_cons, List.filter_cons, List.foldl_cons]
      by_cases h : j = a
      · subst h
        simp only [bne_self_eq_false, Bool.false_eq_true, if_false, if_true]
        exact ih x
      · have h' : (j + 1 != a + 1) = true := by simpa using h
        rw [if_pos h', if_neg h]
        simp only [List.map_cons, List.foldl_cons]
        exact ih _
  unfold sitePairs siteNumbers
  have outer : ∀ (l : List Nat) (x : α), ((l.map fun i => i + 1).flatMap fun a => ((((List.range s.sites.length).map fun (i : Nat) => i + 1)).filter fun b => b != a).map fun b => (a, b)).foldl f x =
      l.foldl (fun x i => (List.range s.sites.length).foldl (fun x j => if j = i then x else f x (i + 1, j + 1)) x) x := by
    intro l
    induction l with
    | nil => intro x; rfl
    | cons i l ih =>
      intro x
      simp only [List.map_cons, List.flatMap_cons, List.foldl_append, List.foldl_cons]
      rw [inner i, ih]
  exact outer _ x
/-- a fold over the first numbers, turn by turn -/
theorem foldl_range_succ {α : Type} (f : α → Nat → α) (n : Nat) (x : α) : (List.range (n + 1)).foldl f x = f ((List.range n).foldl f x) n := by
  rw [List.range_succ, List.foldl_append]
  rfl
theorem sitePairs_len {s t : State} (h : t.sites.length = s.sites.length) : sitePairs t = sitePairs s := by
  unfold sitePairs siteNumbers
  rw [h]
end Sur
namespace Sur
open PySem PySem.Spec PyProof.Rows L2 Evl
/-! ## Short words over the hand layer -/
/-- a def that keeps its promise, its function's data left open -/
def Ok (P : Program) (w : World) (K : PySem.W.Frag) (mg : Str → Option Value) (base : Heap) (k : Nat) (f : Addr) (ps : List Str) (sp : Sp) : Prop :=
  ∃ fd, FnOk P w K mg base CX0 k f fd ps sp ∧ Binds K fd ps []
/-- a def of the top -/
structure FnAt (K : PySem.W.Frag) (mg : Str → Option Value) (x : Str) (st : Stmt) (f : Addr) (ps : List Str) : Prop where
  fn : ∃ fd, Fun K x x st f fd ∧ Binds K fd ps []
  g : mg x = some (.ref f)
  kp : PySem.W.keepIn K (.ref f) = true
/-- a method of the class at C; qual: Class.method -/
structure MtAt (K : PySem.W.Frag) (qual x : Str) (st : Stmt) (C f : Addr) (ps : List Str) : Prop where
  fn : ∃ fd, Fun K x qual st f fd ∧ Binds K fd ps []
  m : Meth K C x f
section
variable {P : Program} {w : World} {K : PySem.W.Frag} {mg : Str → Option Value} {base : Heap}
theorem ok_body {x qual : Str} {st : Stmt} {f : Addr} {N ps : List Str} {k : Nat} {sp : Sp} (F : ∃ fd, Fun K x qual st f fd ∧ Binds K fd ps []) (S : FnScope N ps (defScope st)) (len : ∀ vs H Q E, sp vs H Q E → vs.length = ps.length)
    (hbody : ∀ (cdv : Value) (A : Around) (outer : List Env) (s : Shared) (H : Hp) (vs : List V) (Q : VK) (E : XK), Room k (A.deeper (envOfC qual (defScope st) s.heap.objs.size f cdv)) → sp vs H Q E →
      ∃ t, PSs (cxOf CX0 P w K mg base N qual (defScope st) f cdv A outer s H E).nox (defBody st) t ∧ t { nx := fun _ H' => Q .non H', rt := Q } (start N vs) H) : Ok P w K mg base (k + 1) f ps sp := by
  obtain ⟨fd, F, b⟩ := F
  exact ⟨fd, F.ok S len hbody, b⟩
theorem FnAt.ok {x : Str} {st : Stmt} {f : Addr} {N ps : List Str} {k : Nat} {sp : Sp} (F : FnAt K mg x st f ps) (S : FnScope N ps (defScope st)) (len : ∀ vs H Q E, sp vs H Q E → vs.length = ps.length)
    (hbody : ∀ (cdv : Value) (A : Around) (outer : List Env) (s : Shared) (H : Hp) (vs : List V) (Q : VK) (E : XK), Room k (A.deeper (envOfC x (defScope st) s.heap.objs.size f cdv)) → sp vs H Q E →
      ∃ t, PSs (cxOf CX0 P w K mg base N x (defScope st) f cdv A outer s H E).nox (defBody st) t ∧ t { nx := fun _ H' => Q .non H', rt := Q } (start N vs) H) : Ok P w K mg base (k + 1) f ps sp := ok_body F.fn S len hbody
theorem MtAt.ok {x qual : Str} {st : Stmt} {C f : Addr} {N ps : List Str} {k : Nat} {sp : Sp} (F : MtAt K qual x st C f ps) (S : FnScope N ps (defScope st)) (len : ∀ vs H Q E, sp vs H Q E → vs.length = ps.length)
    (hbody : ∀ (cdv : Value) (A : Around) (outer : List Env) (s : Shared) (H : Hp) (vs : List V) (Q : VK) (E : XK), Room k (A.deeper (envOfC qual (defScope st) s.heap.objs.size f cdv)) → sp vs H Q E →
      ∃ t, PSs (cxOf CX0 P w K mg base N qual (defScope st) f cdv A outer s H E).nox (defBody st) t ∧ t { nx := fun _ H' => Q .non H', rt := Q } (start N vs) H) : Ok P w K mg base (k + 1) f ps sp := ok_body F.fn S len hbody
end
section
variable {X : Cx} {k : Nat} {f C : Addr} {ps : List Str} {sp : Sp} {x m : Str} {p pos apos : Pos} {e o : Expr} {es : List Expr} {ta : TE} {t : TA}
theorem pe_const {n : Int} (hg : Gl X x) (h : ∃ t, X.mg x = some (.int n t)) (hd : (x == ("__debug__" : Str)) = false := by decide) : PE X (.Name x pos) (tC (.int n)) := by
  obtain ⟨t, h⟩ := h
  exact pe_glob hg h ⟨t, rfl⟩ hd
theorem pe_callO (F : Ok X.prog X.w X.K X.mg X.base k f ps sp) (hr : Room k X.A) (hg : Gl X x) (hm : X.mg x = some (.ref f)) (hk : PySem.W.keepIn X.K (.ref f) = true)
    (ha : PA X (e :: es) t) (hdb : (x == ("__debug__" : Str)) = false := by decide) (he : starEach (e :: es) X.env = (false, eval e X.env) :: starEach es X.env := by rfl) (hpl : (backTo pos (starEach es X.env)).any (·.1) = false := by rfl) :
    PE X (.Call (.Name x p) (e :: es) [] pos) (tCall sp [] E0 t) := by
  obtain ⟨fd, F, b⟩ := F
  exact pe_call F hr hg hm hk b .nil pass0 ha hdb he hpl
theorem pe_methO {pl : Sem Bool} (he : PE X o ta) (c : Cls X.K C) (hm : Meth X.K C m f) (F : Ok X.prog X.w X.K X.mg X.base k f ps sp) (hr : Room k X.A) (ha : PA X (e :: es) t)
    (hst : starEach (e :: es) X.env = (false, eval e X.env) :: starEach es X.env := by rfl) (hpl : (backTo pos (starEach es X.env)).any (·.1) = false := by rfl)
    (ht : eval (.Call (.Attribute o m apos) (e :: es) [] pos) X.env = (do
      let ov ← eval o X.env
      standAt apos.atName
      let (f, first) ← holding [ov] (getMethod ov m pl)
      callWith pos f first (backTo pos (starEach (e :: es) X.env)) (backToKw pos (keywordEach [] X.env))) := by rfl) :
    PE X (.Call (.Attribute o m apos) (e :: es) [] pos) (tMeth C m sp [] E0 ta t) := by
  obtain ⟨fd, F, b⟩ := F
  exact pe_meth he c hm F hr b .nil pass0 ha hst hpl ht
theorem pe_meth0O {pl : Sem Bool} (he : PE X o ta) (c : Cls X.K C) (hm : Meth X.K C m f) (F : Ok X.prog X.w X.K X.mg X.base k f ps sp) (hr : Room k X.A)
    (ht : eval (.Call (.Attribute o m apos) [] [] pos) X.env = (do
      let ov ← eval o X.env
      standAt apos.atName
      let (f, first) ← holding [ov] (getMethod ov m pl)
      callWith pos f first (backTo pos (starEach [] X.env)) (backToKw pos (keywordEach [] X.env))) := by rfl) :
    PE X (.Call (.Attribute o m apos) [] [] pos) (tMeth C m sp [] E0 ta tNil) := by
  obtain ⟨fd, F, b⟩ := F
  exact pe_meth0 he c hm F hr b .nil pass0 ht
theorem pe_makeO (M : Mk X.K C f) (F : Ok X.prog X.w X.K X.mg X.base k f ps sp) (hr : Room (k + 1) X.A) (hg : Gl X x) (hm : X.mg x = some (.ref C))
    (ha : PA X (e :: es) t) (hdb : (x == ("__debug__" : Str)) = false := by decide) (he : starEach (e :: es) X.env = (false, eval e X.env) :: starEach es X.env := by rfl) (hpl : (backTo pos (starEach es X.env)).any (·.1) = false := by rfl) :
    PE X (.Call (.Name x p) (e :: es) [] pos) (tMake C sp [] E0 t) := by
  obtain ⟨fd, F, b⟩ := F
  exact pe_make M F hr hg hm b .nil pass0 ha hdb he hpl
theorem pe_make0O (M : Mk X.K C f) (F : Ok X.prog X.w X.K X.mg X.base k f ps sp) (hr : Room (k + 1) X.A) (hg : Gl X x) (hm : X.mg x = some (.ref C)) (hdb : (x == ("__debug__" : Str)) = false := by decide) :
    PE X (.Call (.Name x p) [] [] pos) (tMake C sp [] E0 tNil) := by
  obtain ⟨fd, F, b⟩ := F
  exact pe_make0 M F hr hg hm b .nil pass0 hdb
end
abbrev rPlus : R2 := rI0 fun i j => .int (i + j)
abbrev rMinus : R2 := rI0 fun i j => .int (i - j)
abbrev rMul : R2 := rI CMul fun i j => .int (i * j)
abbrev rDiv : R2 := rI CDiv fun i j => .int (i / j)
abbrev rMod : R2 := rI (fun _ j => 0 < j) fun i j => .int (i % j)
abbrev rLt : R2 := rI0 fun i j => .bl (decide (i < j))
abbrev rLe : R2 := rI0 fun i j => .bl (decide (i ≤ j))
abbrev rGt : R2 := rI0 fun i j => .bl (decide (j < i))
abbrev rGe : R2 := rI0 fun i j => .bl (decide (j ≤ i))
abbrev rIsN : R2 := fun x y H Q => y = .non ∧ Q (.bl (decide (x = .non))) H
abbrev rNotN : R2 := fun x y H Q => y = .non ∧ Q (.bl (!decide (x = .non))) H
abbrev tTru (K : PySem.W.Frag) (ta : TE) : TT := fun σ H Q => ta σ H fun x H' => ∃ k, TruV K x H' k ∧ Q k H'
/-! ## What evaluates to what: the words that Evl lacks -/
section
variable {K : PySem.W.Frag} {σ : L2.St} {H H' : Hp} {ta tb te tx : TE} {t u : TT} {x y z v : V} {r : R2} {D : Ends} {tz : TS}
theorem ev_fld {a C dx : Addr} {fs : List (Str × V)} {f : Str} (h : Ev ta σ H (.ref a)) (ho : H a = some (.ins C dx fs)) (c : Cls K C) (n : NoAttr K C f) (l : fs.lookup f = some v) : Ev (tFld K ta f) σ H v := fun H1 e _ q =>
  h H1 e _ fun H2 e2 => ⟨a, C, dx, fs, v, rfl, e2 a _ (e a _ ho), c, n, l, q H2 e2⟩
theorem ev_ixL {p : Addr} {xs : List V} {j : Nat} (h : Ev ta σ H (.ref p)) (hi : Ev tb σ H (.int (j : Int))) (hs : SqL K H p xs) (ha : xs[j]? = some v) : Ev (tOp (rIxL K) ta tb) σ H v := ev_op h hi (rv_ixL hs (atI_nat ha))
theorem et_tru {xs : List V} {p : Addr} (h : Ev ta σ H (.ref p)) (hs : SqL K H p xs) : EvT (tTru K ta) σ H (!xs.isEmpty) := fun H1 e _ q => h H1 e _ fun H2 e2 => ⟨_, .inl ⟨xs, ex_l (e.trans e2) hs, rfl⟩, q H2 e2⟩
theorem ev_chain {r' : R2} {tc : TE} {x y w : V} {a b : Bool} (ha : Ev ta σ H x) (hb : Ev tb σ H y) (hr : RV r x y H (.bl a)) (hc : a = true → Ev tc σ H w) (hr' : a = true → RV r' y w H (.bl b)) : Ev (tChain r r' ta tb tc) σ H (.bl (a && b)) := fun H1 e Q q =>
  ha H1 e _ fun H2 e2 => hb H2 (e.trans e2) _ fun H3 e3 => hr H3 ((e.trans e2).trans e3) _ fun H4 e4 => ⟨a, rfl, by
    cases a with
    | true =>
      show tc σ H4 _
      exact hc rfl H4 (((e.trans e2).trans e3).trans e4) _ fun H5 e5 => hr' rfl H5 ((((e.trans e2).trans e3).trans e4).trans e5) Q fun H6 e6 => q H6 ((((e2.trans e3).trans e4).trans e5).trans e6)
    | false =>
      show Q (.bl false) H4
      exact q H4 ((e2.trans e3).trans e4)⟩
theorem rv_isN : RV rIsN x .non H (.bl (decide (x = .non))) := fun H1 _ _ q => ⟨rfl, q H1 (Ex.refl H1)⟩
theorem rv_notN : RV rNotN x .non H (.bl (!decide (x = .non))) := fun H1 _ _ q => ⟨rfl, q H1 (Ex.refl H1)⟩
theorem ev_sum {p : Addr} {ns : List Int} (h : Ev ta σ H (.ref p)) (hs : SqL K H p (ns.map V.int)) : Ev (tCB (rSum K) (tCons ta tNil)) σ H (.int ns.sum) := ev_cb (ea_cons h ea_nil) fun H1 e Q q => ⟨p, ns, rfl, ex_l e hs, q H1 (Ex.refl H1)⟩
theorem ev_sumN {ns : List Int} (h : EvL ta σ H (ns.map V.int)) : Ev (tCB (rSum K) (tCons ta tNil)) σ H (.int ns.sum) := fun H1 e Q q => h H1 e _ fun p H2 _ e2 h2 => ⟨p, ns, rfl, sq_of h2, q H2 e2⟩
theorem ev_allN {bs : List Bool} (h : EvL ta σ H (bs.map V.bl)) : Ev (tCB (rAll K) (tCons ta tNil)) σ H (.bl (bs.all id)) := fun H1 e Q q => h H1 e _ fun p H2 _ e2 h2 => ⟨p, bs, rfl, sq_of h2, q H2 e2⟩
theorem ev_anyN {bs : List Bool} (h : EvL ta σ H (bs.map V.bl)) : Ev (tCB (rAny K) (tCons ta tNil)) σ H (.bl (bs.any id)) := fun H1 e Q q => h H1 e _ fun p H2 _ e2 h2 => ⟨p, bs, rfl, sq_of h2, q H2 e2⟩
theorem given_all (n : Nat) (v : Nat → V) : given n (fun _ => true) v = (List.range n).map v := by
  unfold given
  rw [List.filter_eq_self.mpr (fun _ _ => rfl)]
theorem et_yes : EvT tYes σ H true := fun H1 _ _ q => q H1 (Ex.refl H1)
/-- [e for x in xs] over a list that stands: what e gives of each item -/
theorem el_map {a : Addr} {xs ys : List V} {tl : TE} {j : Nat} {vs : List Nat} (h : Ev tl σ H (.ref a)) (hx : SqL K H a xs) (hz : xs.length ≤ 40000) (hw : ∀ x, wipe ((wipe σ vs).set j (some x)) vs = wipe σ vs) (hl : ys.length = xs.length)
    (he : ∀ (i : Nat) (x y : V) H1, Ex H H1 → xs[i]? = some x → ys[i]? = some y → Ev te ((wipe σ vs).set j (some x)) H1 y) : EvL (tLc (iList K tl) (gName j) tYes te vs) σ H ys := by
  have q := el_lcL (te := te) (t := tYes) (fun _ => true) (fun i => ys.getD i .non) h hx hz hw (fun i x H1 e hi => et_yes) (fun i x H1 e hi _ => by
    have hi' : i < ys.length := by rw [hl]; exact (List.getElem?_eq_some_iff.mp hi).1
    have e1 : ys[i]? = some (ys.getD i .non) := by rw [List.getD_eq_getElem?_getD, List.getElem?_eq_getElem hi']; rfl
    exact he i x _ H1 e hi e1)
  rw [given_all] at q
  have e2 : (List.range xs.length).map (fun i => ys.getD i .non) = ys := by
    apply List.ext_getElem?
    intro i
    rw [List.getElem?_map]
    by_cases hi : i < xs.length
    · rw [List.getElem?_range hi, List.getElem?_eq_getElem (by omega)]
      show some (ys.getD i .non) = _
      rw [List.getD_eq_getElem?_getD, List.getElem?_eq_getElem (by omega)] <;> rfl
    · rw [List.getElem?_eq_none (by simpa using hi), List.getElem?_eq_none (by omega)] <;> rfl
  rw [e2] at q
  exact q
/-- xs.extend(ys) -/
theorem q_ext {l b : Addr} {xs zs : List V} (hl : H l = some (.lst xs)) (ha : Ev ta σ H (.ref l)) (h : Ev te σ H (.ref b)) (hb : H b = some (.lst zs)) (hz : xs.length + zs.length ≤ sizeLine) (k : ∀ H1, Ex H H1 → tz D σ (upd H1 l (.lst (xs ++ zs)))) :
    tSeq (tDrop (tBM K "list" rExtend ta (tCons te tNil))) tz D σ H := ha H (Ex.refl H) _ fun H1 e1 =>
  ⟨Or.inl ⟨rfl, xs, sq_of (e1 l _ hl)⟩, h H1 e1 _ fun H2 e2 => ⟨l, b, xs, zs, rfl, rfl, e2 l _ (e1 l _ hl), e2 b _ (e1 b _ hb), hz, k H2 (e1.trans e2)⟩⟩
theorem s_ext {l b : Addr} {xs zs : List V} (hl : H l = some (.lst xs)) (ha : Ev ta σ H (.ref l)) (h : Ev te σ H (.ref b)) (hb : H b = some (.lst zs)) (hz : xs.length + zs.length ≤ sizeLine) (k : ∀ H1, Ex H H1 → D.nx σ (upd H1 l (.lst (xs ++ zs)))) :
    tDrop (tBM K "list" rExtend ta (tCons te tNil)) D σ H := ha H (Ex.refl H) _ fun H1 e1 =>
  ⟨Or.inl ⟨rfl, xs, sq_of (e1 l _ hl)⟩, h H1 e1 _ fun H2 e2 => ⟨l, b, xs, zs, rfl, rfl, e2 l _ (e1 l _ hl), e2 b _ (e1 b _ hb), hz, k H2 (e1.trans e2)⟩⟩
/-- a field given, a name given, whatever the value does to the heap -/
theorem q_sFld {f : Str} (h : te σ H fun y H1 => ta σ H1 fun x H2 => ∃ a C dx fs, x = .ref a ∧ H2 a = some (.ins C dx fs) ∧ Cls K C ∧ NoAttr K C f ∧ fs.length < 1000 ∧ tz D σ (upd H2 a (.ins C dx (putF f y fs)))) : tSeq (sFld K ta te f) tz D σ H := h
theorem s_sFld {f : Str} (h : te σ H fun y H1 => ta σ H1 fun x H2 => ∃ a C dx fs, x = .ref a ∧ H2 a = some (.ins C dx fs) ∧ Cls K C ∧ NoAttr K C f ∧ fs.length < 1000 ∧ D.nx σ (upd H2 a (.ins C dx (putF f y fs)))) : sFld K ta te f D σ H := h
theorem q_tAsg {i : Nat} (h : te σ H fun x H1 => tz D (σ.set i (some x)) H1) : tSeq (tAsg te (gName i)) tz D σ H := h
theorem q_tDrop (h : te σ H fun _ H1 => tz D σ H1) : tSeq (tDrop te) tz D σ H := h
theorem s_tDrop (h : te σ H fun _ H1 => D.nx σ H1) : tDrop te D σ H := h
theorem s_tRet (h : te σ H D.rt) : tRet te D σ H := h
/-- self.f = a parameter, in __init__ -/
theorem s_init {p C dx : Addr} {fs : List (Str × V)} {f : Str} {i : Nat} (j : Nat) (e : σ[i]? = some (some v)) (e0 : σ[0]? = some (some (.ref p))) (hp : H p = some (.ins C dx fs)) (c : Cls K C) (n : NoAttr K C f) (hl : fs.length ≤ j) (hj : j < 1000)
    (q : (putF f v fs).length ≤ j + 1 → upd H p (.ins C dx (putF f v fs)) p = some (.ins C dx (putF f v fs)) → D.nx σ (upd H p (.ins C dx (putF f v fs)))) : sFld K (tVar 0) (tVar i) f D σ H :=
  ⟨v, e, .ref p, e0, p, C, dx, fs, rfl, hp, c, n, Nat.lt_of_le_of_lt hl hj, q (Nat.le_trans (length_putF _ _ _) (Nat.succ_le_succ hl)) upd_same⟩
/-- a field given a value that is known -/
theorem s_fld {p C dx : Addr} {fs : List (Str × V)} {f : Str} (h : Ev te σ H v) (h0 : Ev ta σ H (.ref p)) (hp : H p = some (.ins C dx fs)) (c : Cls K C) (n : NoAttr K C f) (hl : fs.length < 1000)
    (q : ∀ H1, Ex H H1 → D.nx σ (upd H1 p (.ins C dx (putF f v fs)))) : sFld K ta te f D σ H := h H (Ex.refl H) _ fun H1 e1 => h0 H1 e1 _ fun H2 e2 =>
  ⟨p, C, dx, fs, rfl, e2 p _ (e1 p _ hp), c, n, hl, q H2 (e1.trans e2)⟩
end
/-! ## The text by places, the names by slot; each def's reading. Printed by gen.py -/
def top (i : Nat) : Stmt := PySem.Challenge.pw_surelinks_s01_answers.main.body.getD i (.Pass ⟨0, 0, 0, 0⟩)
abbrev s_Call_init : Stmt := inClass (top 3) 0
abbrev s_split_calls : Stmt := top 4
abbrev s_SiteCopy_init : Stmt := inClass (top 6) 0
abbrev s_SiteCopy_sent_count : Stmt := inClass (top 6) 1
abbrev s_SiteCopy_received_count : Stmt := inClass (top 6) 2
abbrev s_SiteCopy_acknowledged_sum : Stmt := inClass (top 6) 3
abbrev s_SiteCopy_copied : Stmt := inClass (top 6) 4
abbrev s_SiteCopy_equals : Stmt := inClass (top 6) 5
abbrev s_Site_init : Stmt := inClass (top 7) 0
abbrev s_Site_at_risk : Stmt := inClass (top 7) 1
abbrev s_Site_sync : Stmt := inClass (top 7) 2
abbrev s_Site_crash : Stmt := inClass (top 7) 3
abbrev s_WirePacket_init : Stmt := inClass (top 9) 0
abbrev s_WirePacket_twin : Stmt := inClass (top 9) 1
abbrev s_Network_init : Stmt := inClass (top 10) 0
abbrev s_Network_site : Stmt := inClass (top 10) 1
abbrev s_Network_add_sites : Stmt := inClass (top 10) 2
abbrev s_Network_pairs : Stmt := inClass (top 10) 3
abbrev s_is_site_number : Stmt := top 19
abbrev s_is_octet : Stmt := top 20
abbrev s_is_payload : Stmt := top 21
abbrev s_is_copy_number : Stmt := top 22
abbrev s_is_message_number : Stmt := top 23
abbrev s_is_message_count : Stmt := top 24
abbrev s_Packet_init : Stmt := inClass (top 33) 0
abbrev s_checksum_of : Stmt := top 34
abbrev s_octets_of : Stmt := top 35
abbrev s_has_valid_fields : Stmt := top 37
abbrev s_packet_of : Stmt := top 36
abbrev s_put_on_wires : Stmt := top 45
abbrev s_transmit_durable : Stmt := top 46
abbrev s_has_message : Stmt := top 47
abbrev s_take_acknowledgement : Stmt := top 50
abbrev s_take_message : Stmt := top 49
abbrev s_deliver_packet : Stmt := top 48
abbrev s_deliver_all : Stmt := top 52
abbrev s_sync_all : Stmt := top 53
abbrev s_perform_exchange : Stmt := top 54
abbrev s_sites_refusal : Stmt := top 65
abbrev s_pair_refusal : Stmt := top 66
abbrev s_packet_refusal : Stmt := top 67
abbrev s_create_sites : Stmt := top 69
abbrev s_post : Stmt := top 70
abbrev s_sync : Stmt := top 71
abbrev s_crash : Stmt := top 72
abbrev s_at_risk : Stmt := top 73
abbrev s_transmit : Stmt := top 74
abbrev s_deliver : Stmt := top 75
abbrev s_lose : Stmt := top 76
abbrev s_duplicate : Stmt := top 77
abbrev s_damage : Stmt := top 78
abbrev s_exchange : Stmt := top 79
abbrev s_answer_change : Stmt := top 80
abbrev s_received : Stmt := top 82
abbrev s_link_state : Stmt := top 83
abbrev s_unsettled : Stmt := top 84
abbrev s_listed_fields : Stmt := top 86
abbrev s_list_packets : Stmt := top 85
abbrev s_packet_bytes : Stmt := top 87
abbrev s_all_arrived : Stmt := top 90
abbrev s_all_durable : Stmt := top 89
abbrev s_is_settled : Stmt := top 88
abbrev s_totals : Stmt := top 91
abbrev s_answer_look : Stmt := top 92
abbrev s_write_packet : Stmt := top 94
abbrev s_read_packet : Stmt := top 95
abbrev s_answer_packet_call : Stmt := top 96
abbrev s_answer_call : Stmt := top 101
abbrev s_answers : Stmt := top 100
theorem sc_Call_init : FnScope ["self", "operation", "numbers", "row"] ["self", "operation", "numbers", "row"] (defScope s_Call_init) := ⟨rfl, rfl, rfl, by decide +kernel, rfl, by decide +kernel, by decide +kernel⟩
theorem sc_split_calls : FnScope ["calls", "found", "place", "operation", "end", "numbers", "row", "start"] ["calls"] (defScope s_split_calls) := ⟨rfl, rfl, rfl, by decide +kernel, rfl, by decide +kernel, by decide +kernel⟩
theorem sc_SiteCopy_init : FnScope ["self", "site_count", "place"] ["self", "site_count"] (defScope s_SiteCopy_init) := ⟨rfl, rfl, rfl, by decide +kernel, rfl, by decide +kernel, by decide +kernel⟩
theorem sc_SiteCopy_sent_count : FnScope ["self", "messages"] ["self"] (defScope s_SiteCopy_sent_count) := ⟨rfl, rfl, rfl, by decide +kernel, rfl, by decide +kernel, by decide +kernel⟩
theorem sc_SiteCopy_received_count : FnScope ["self", "messages"] ["self"] (defScope s_SiteCopy_received_count) := ⟨rfl, rfl, rfl, by decide +kernel, rfl, by decide +kernel, by decide +kernel⟩
theorem sc_SiteCopy_acknowledged_sum : FnScope ["self"] ["self"] (defScope s_SiteCopy_acknowledged_sum) := ⟨rfl, rfl, rfl, by decide +kernel, rfl, by decide +kernel, by decide +kernel⟩
theorem sc_SiteCopy_copied : FnScope ["self", "twin", "messages"] ["self"] (defScope s_SiteCopy_copied) := ⟨rfl, rfl, rfl, by decide +kernel, rfl, by decide +kernel, by decide +kernel⟩
theorem sc_SiteCopy_equals : FnScope ["self", "other"] ["self", "other"] (defScope s_SiteCopy_equals) := ⟨rfl, rfl, rfl, by decide +kernel, rfl, by decide +kernel, by decide +kernel⟩
theorem sc_Site_init : FnScope ["self", "site_count"] ["self", "site_count"] (defScope s_Site_init) := ⟨rfl, rfl, rfl, by decide +kernel, rfl, by decide +kernel, by decide +kernel⟩
theorem sc_Site_at_risk : FnScope ["self"] ["self"] (defScope s_Site_at_risk) := ⟨rfl, rfl, rfl, by decide +kernel, rfl, by decide +kernel, by decide +kernel⟩
theorem sc_Site_sync : FnScope ["self", "gained"] ["self"] (defScope s_Site_sync) := ⟨rfl, rfl, rfl, by decide +kernel, rfl, by decide +kernel, by decide +kernel⟩
theorem sc_Site_crash : FnScope ["self", "lost"] ["self"] (defScope s_Site_crash) := ⟨rfl, rfl, rfl, by decide +kernel, rfl, by decide +kernel, by decide +kernel⟩
theorem sc_WirePacket_init : FnScope ["self", "octets", "damaged"] ["self", "octets", "damaged"] (defScope s_WirePacket_init) := ⟨rfl, rfl, rfl, by decide +kernel, rfl, by decide +kernel, by decide +kernel⟩
theorem sc_WirePacket_twin : FnScope ["self"] ["self"] (defScope s_WirePacket_twin) := ⟨rfl, rfl, rfl, by decide +kernel, rfl, by decide +kernel, by decide +kernel⟩
theorem sc_Network_init : FnScope ["self"] ["self"] (defScope s_Network_init) := ⟨rfl, rfl, rfl, by decide +kernel, rfl, by decide +kernel, by decide +kernel⟩
theorem sc_Network_site : FnScope ["self", "number"] ["self", "number"] (defScope s_Network_site) := ⟨rfl, rfl, rfl, by decide +kernel, rfl, by decide +kernel, by decide +kernel⟩
theorem sc_Network_add_sites : FnScope ["self", "count", "place"] ["self", "count"] (defScope s_Network_add_sites) := ⟨rfl, rfl, rfl, by decide +kernel, rfl, by decide +kernel, by decide +kernel⟩
theorem sc_Network_pairs : FnScope ["self", "found", "one", "other"] ["self"] (defScope s_Network_pairs) := ⟨rfl, rfl, rfl, by decide +kernel, rfl, by decide +kernel, by decide +kernel⟩
theorem sc_is_site_number : FnScope ["number"] ["number"] (defScope s_is_site_number) := ⟨rfl, rfl, rfl, by decide +kernel, rfl, by decide +kernel, by decide +kernel⟩
theorem sc_is_octet : FnScope ["value"] ["value"] (defScope s_is_octet) := ⟨rfl, rfl, rfl, by decide +kernel, rfl, by decide +kernel, by decide +kernel⟩
theorem sc_is_payload : FnScope ["row", "value"] ["row"] (defScope s_is_payload) := ⟨rfl, rfl, rfl, by decide +kernel, rfl, by decide +kernel, by decide +kernel⟩
theorem sc_is_copy_number : FnScope ["number"] ["number"] (defScope s_is_copy_number) := ⟨rfl, rfl, rfl, by decide +kernel, rfl, by decide +kernel, by decide +kernel⟩
theorem sc_is_message_number : FnScope ["number"] ["number"] (defScope s_is_message_number) := ⟨rfl, rfl, rfl, by decide +kernel, rfl, by decide +kernel, by decide +kernel⟩
theorem sc_is_message_count : FnScope ["count"] ["count"] (defScope s_is_message_count) := ⟨rfl, rfl, rfl, by decide +kernel, rfl, by decide +kernel, by decide +kernel⟩
theorem sc_Packet_init : FnScope ["self", "kind", "sender", "receiver", "number", "payload"] ["self", "kind", "sender", "receiver", "number", "payload"] (defScope s_Packet_init) := ⟨rfl, rfl, rfl, by decide +kernel, rfl, by decide +kernel, by decide +kernel⟩
theorem sc_checksum_of : FnScope ["octets", "checksum", "octet"] ["octets"] (defScope s_checksum_of) := ⟨rfl, rfl, rfl, by decide +kernel, rfl, by decide +kernel, by decide +kernel⟩
theorem sc_octets_of : FnScope ["packet", "octets", "checksum"] ["packet"] (defScope s_octets_of) := ⟨rfl, rfl, rfl, by decide +kernel, rfl, by decide +kernel, by decide +kernel⟩
theorem sc_has_valid_fields : FnScope ["packet"] ["packet"] (defScope s_has_valid_fields) := ⟨rfl, rfl, rfl, by decide +kernel, rfl, by decide +kernel, by decide +kernel⟩
theorem sc_packet_of : FnScope ["octets", "payload", "packet"] ["octets"] (defScope s_packet_of) := ⟨rfl, rfl, rfl, by decide +kernel, rfl, by decide +kernel, by decide +kernel⟩
theorem sc_put_on_wires : FnScope ["network", "packet"] ["network", "packet"] (defScope s_put_on_wires) := ⟨rfl, rfl, rfl, by decide +kernel, rfl, by decide +kernel, by decide +kernel⟩
theorem sc_transmit_durable : FnScope ["network", "sender", "receiver", "durable", "sent", "acknowledged", "up_to", "place"] ["network", "sender", "receiver"] (defScope s_transmit_durable) := ⟨rfl, rfl, rfl, by decide +kernel, rfl, by decide +kernel, by decide +kernel⟩
theorem sc_has_message : FnScope ["network", "sender", "receiver", "carried", "packet"] ["network", "sender", "receiver"] (defScope s_has_message) := ⟨rfl, rfl, rfl, by decide +kernel, rfl, by decide +kernel, by decide +kernel⟩
theorem sc_take_acknowledgement : FnScope ["present", "packet"] ["present", "packet"] (defScope s_take_acknowledgement) := ⟨rfl, rfl, rfl, by decide +kernel, rfl, by decide +kernel, by decide +kernel⟩
theorem sc_take_message : FnScope ["present", "packet", "received"] ["present", "packet"] (defScope s_take_message) := ⟨rfl, rfl, rfl, by decide +kernel, rfl, by decide +kernel, by decide +kernel⟩
theorem sc_deliver_packet : FnScope ["network", "index", "packet", "present", "outcome"] ["network", "index"] (defScope s_deliver_packet) := ⟨rfl, rfl, rfl, by decide +kernel, rfl, by decide +kernel, by decide +kernel⟩
theorem sc_deliver_all : FnScope ["network", "outcomes"] ["network"] (defScope s_deliver_all) := ⟨rfl, rfl, rfl, by decide +kernel, rfl, by decide +kernel, by decide +kernel⟩
theorem sc_sync_all : FnScope ["network", "site"] ["network"] (defScope s_sync_all) := ⟨rfl, rfl, rfl, by decide +kernel, rfl, by decide +kernel, by decide +kernel⟩
theorem sc_perform_exchange : FnScope ["network", "outcomes", "sender", "receiver"] ["network"] (defScope s_perform_exchange) := ⟨rfl, rfl, rfl, by decide +kernel, rfl, by decide +kernel, by decide +kernel⟩
theorem sc_sites_refusal : FnScope ["network", "numbers", "others_fit", "number"] ["network", "numbers", "others_fit"] (defScope s_sites_refusal) := ⟨rfl, rfl, rfl, by decide +kernel, rfl, by decide +kernel, by decide +kernel⟩
theorem sc_pair_refusal : FnScope ["network", "one", "other", "others_fit", "refusal"] ["network", "one", "other", "others_fit"] (defScope s_pair_refusal) := ⟨rfl, rfl, rfl, by decide +kernel, rfl, by decide +kernel, by decide +kernel⟩
theorem sc_packet_refusal : FnScope ["network", "index", "others_fit", "refusal"] ["network", "index", "others_fit"] (defScope s_packet_refusal) := ⟨rfl, rfl, rfl, by decide +kernel, rfl, by decide +kernel, by decide +kernel⟩
theorem sc_create_sites : FnScope ["network", "count"] ["network", "count"] (defScope s_create_sites) := ⟨rfl, rfl, rfl, by decide +kernel, rfl, by decide +kernel, by decide +kernel⟩
theorem sc_post : FnScope ["network", "sender", "receiver", "payload", "refusal", "present"] ["network", "sender", "receiver", "payload"] (defScope s_post) := ⟨rfl, rfl, rfl, by decide +kernel, rfl, by decide +kernel, by decide +kernel⟩
theorem sc_sync : FnScope ["network", "number", "refusal"] ["network", "number"] (defScope s_sync) := ⟨rfl, rfl, rfl, by decide +kernel, rfl, by decide +kernel, by decide +kernel⟩
theorem sc_crash : FnScope ["network", "number", "refusal"] ["network", "number"] (defScope s_crash) := ⟨rfl, rfl, rfl, by decide +kernel, rfl, by decide +kernel, by decide +kernel⟩
theorem sc_at_risk : FnScope ["network", "number", "refusal"] ["network", "number"] (defScope s_at_risk) := ⟨rfl, rfl, rfl, by decide +kernel, rfl, by decide +kernel, by decide +kernel⟩
theorem sc_transmit : FnScope ["network", "sender", "receiver", "refusal"] ["network", "sender", "receiver"] (defScope s_transmit) := ⟨rfl, rfl, rfl, by decide +kernel, rfl, by decide +kernel, by decide +kernel⟩
theorem sc_deliver : FnScope ["network", "index", "refusal"] ["network", "index"] (defScope s_deliver) := ⟨rfl, rfl, rfl, by decide +kernel, rfl, by decide +kernel, by decide +kernel⟩
theorem sc_lose : FnScope ["network", "index", "refusal"] ["network", "index"] (defScope s_lose) := ⟨rfl, rfl, rfl, by decide +kernel, rfl, by decide +kernel, by decide +kernel⟩
theorem sc_duplicate : FnScope ["network", "index", "refusal"] ["network", "index"] (defScope s_duplicate) := ⟨rfl, rfl, rfl, by decide +kernel, rfl, by decide +kernel, by decide +kernel⟩
theorem sc_damage : FnScope ["network", "index", "position", "value", "refusal", "carried", "old_value"] ["network", "index", "position", "value"] (defScope s_damage) := ⟨rfl, rfl, rfl, by decide +kernel, rfl, by decide +kernel, by decide +kernel⟩
theorem sc_exchange : FnScope ["network", "refusal"] ["network"] (defScope s_exchange) := ⟨rfl, rfl, rfl, by decide +kernel, rfl, by decide +kernel, by decide +kernel⟩
theorem sc_answer_change : FnScope ["network", "operation", "numbers", "row"] ["network", "operation", "numbers", "row"] (defScope s_answer_change) := ⟨rfl, rfl, rfl, by decide +kernel, rfl, by decide +kernel, by decide +kernel⟩
theorem sc_received : FnScope ["network", "number", "sender", "first", "count", "refusal", "messages", "told", "payload"] ["network", "number", "sender", "first", "count"] (defScope s_received) := ⟨rfl, rfl, rfl, by decide +kernel, rfl, by decide +kernel, by decide +kernel⟩
theorem sc_link_state : FnScope ["network", "number", "other", "copy_number", "refusal", "state"] ["network", "number", "other", "copy_number"] (defScope s_link_state) := ⟨rfl, rfl, rfl, by decide +kernel, rfl, by decide +kernel, by decide +kernel⟩
theorem sc_unsettled : FnScope ["network", "sender", "receiver", "refusal", "present", "acknowledged", "count"] ["network", "sender", "receiver"] (defScope s_unsettled) := ⟨rfl, rfl, rfl, by decide +kernel, rfl, by decide +kernel, by decide +kernel⟩
theorem sc_listed_fields : FnScope ["packet"] ["packet"] (defScope s_listed_fields) := ⟨rfl, rfl, rfl, by decide +kernel, rfl, by decide +kernel, by decide +kernel⟩
theorem sc_list_packets : FnScope ["network", "refusal", "told", "carried"] ["network"] (defScope s_list_packets) := ⟨rfl, rfl, rfl, by decide +kernel, rfl, by decide +kernel, by decide +kernel⟩
theorem sc_packet_bytes : FnScope ["network", "index", "refusal"] ["network", "index"] (defScope s_packet_bytes) := ⟨rfl, rfl, rfl, by decide +kernel, rfl, by decide +kernel, by decide +kernel⟩
theorem sc_all_arrived : FnScope ["network", "sender", "receiver", "present", "count"] ["network"] (defScope s_all_arrived) := ⟨rfl, rfl, rfl, by decide +kernel, rfl, by decide +kernel, by decide +kernel⟩
theorem sc_all_durable : FnScope ["network", "site"] ["network"] (defScope s_all_durable) := ⟨rfl, rfl, rfl, by decide +kernel, rfl, by decide +kernel, by decide +kernel⟩
theorem sc_is_settled : FnScope ["network", "refusal"] ["network"] (defScope s_is_settled) := ⟨rfl, rfl, rfl, by decide +kernel, rfl, by decide +kernel, by decide +kernel⟩
theorem sc_totals : FnScope ["network", "refusal", "posted", "arrived", "site"] ["network"] (defScope s_totals) := ⟨rfl, rfl, rfl, by decide +kernel, rfl, by decide +kernel, by decide +kernel⟩
theorem sc_answer_look : FnScope ["network", "operation", "numbers"] ["network", "operation", "numbers"] (defScope s_answer_look) := ⟨rfl, rfl, rfl, by decide +kernel, rfl, by decide +kernel, by decide +kernel⟩
theorem sc_write_packet : FnScope ["kind", "sender", "receiver", "number", "payload"] ["kind", "sender", "receiver", "number", "payload"] (defScope s_write_packet) := ⟨rfl, rfl, rfl, by decide +kernel, rfl, by decide +kernel, by decide +kernel⟩
theorem sc_read_packet : FnScope ["octets", "packet", "octet"] ["octets"] (defScope s_read_packet) := ⟨rfl, rfl, rfl, by decide +kernel, rfl, by decide +kernel, by decide +kernel⟩
theorem sc_answer_packet_call : FnScope ["operation", "numbers", "row"] ["operation", "numbers", "row"] (defScope s_answer_packet_call) := ⟨rfl, rfl, rfl, by decide +kernel, rfl, by decide +kernel, by decide +kernel⟩
theorem sc_answer_call : FnScope ["network", "call"] ["network", "call"] (defScope s_answer_call) := ⟨rfl, rfl, rfl, by decide +kernel, rfl, by decide +kernel, by decide +kernel⟩
theorem sc_answers : FnScope ["calls", "network", "told", "call", "answer"] ["calls"] (defScope s_answers) := ⟨rfl, rfl, rfl, by decide +kernel, rfl, by decide +kernel, by decide +kernel⟩
structure Ads where
  c_Call : Addr
  c_SiteCopy : Addr
  c_Site : Addr
  c_WirePacket : Addr
  c_Network : Addr
  c_Packet : Addr
  k_NUMBER_COUNTS : Addr
  k_WITH_LIST : Addr
  k_CHANGES : Addr
  k_PACKET_CALLS : Addr
  f_Call_init : Addr
  f_split_calls : Addr
  f_SiteCopy_init : Addr
  f_SiteCopy_sent_count : Addr
  f_SiteCopy_received_count : Addr
  f_SiteCopy_acknowledged_sum : Addr
  f_SiteCopy_copied : Addr
  f_SiteCopy_equals : Addr
  f_Site_init : Addr
  f_Site_at_risk : Addr
  f_Site_sync : Addr
  f_Site_crash : Addr
  f_WirePacket_init : Addr
  f_WirePacket_twin : Addr
  f_Network_init : Addr
  f_Network_site : Addr
  f_Network_add_sites : Addr
  f_Network_pairs : Addr
  f_is_site_number : Addr
  f_is_octet : Addr
  f_is_payload : Addr
  f_is_copy_number : Addr
  f_is_message_number : Addr
  f_is_message_count : Addr
  f_Packet_init : Addr
  f_checksum_of : Addr
  f_octets_of : Addr
  f_has_valid_fields : Addr
  f_packet_of : Addr
  f_put_on_wires : Addr
  f_transmit_durable : Addr
  f_has_message : Addr
  f_take_acknowledgement : Addr
  f_take_message : Addr
  f_deliver_packet : Addr
  f_deliver_all : Addr
  f_sync_all : Addr
  f_perform_exchange : Addr
  f_sites_refusal : Addr
  f_pair_refusal : Addr
  f_packet_refusal : Addr
  f_create_sites : Addr
  f_post : Addr
  f_sync : Addr
  f_crash : Addr
  f_at_risk : Addr
  f_transmit : Addr
  f_deliver : Addr
  f_lose : Addr
  f_duplicate : Addr
  f_damage : Addr
  f_exchange : Addr
  f_answer_change : Addr
  f_received : Addr
  f_link_state : Addr
  f_unsettled : Addr
  f_listed_fields : Addr
  f_list_packets : Addr
  f_packet_bytes : Addr
  f_all_arrived : Addr
  f_all_durable : Addr
  f_is_settled : Addr
  f_totals : Addr
  f_answer_look : Addr
  f_write_packet : Addr
  f_read_packet : Addr
  f_answer_packet_call : Addr
  f_answer_call : Addr
  f_answers : Addr
structure Txt (K : PySem.W.Frag) (mg : Str → Option Value) (A : Ads) : Prop where
  cl_Call : Cls K A.c_Call
  g_Call : mg "Call" = some (.ref A.c_Call)
  n_Call_operation : NoAttr K A.c_Call "operation"
  n_Call_numbers : NoAttr K A.c_Call "numbers"
  n_Call_row : NoAttr K A.c_Call "row"
  m_Call : Mk K A.c_Call A.f_Call_init
  cl_SiteCopy : Cls K A.c_SiteCopy
  g_SiteCopy : mg "SiteCopy" = some (.ref A.c_SiteCopy)
  n_SiteCopy_sent : NoAttr K A.c_SiteCopy "sent"
  n_SiteCopy_acknowledged : NoAttr K A.c_SiteCopy "acknowledged"
  n_SiteCopy_received : NoAttr K A.c_SiteCopy "received"
  m_SiteCopy : Mk K A.c_SiteCopy A.f_SiteCopy_init
  cl_Site : Cls K A.c_Site
  g_Site : mg "Site" = some (.ref A.c_Site)
  n_Site_present : NoAttr K A.c_Site "present"
  n_Site_durable : NoAttr K A.c_Site "durable"
  m_Site : Mk K A.c_Site A.f_Site_init
  cl_WirePacket : Cls K A.c_WirePacket
  g_WirePacket : mg "WirePacket" = some (.ref A.c_WirePacket)
  n_WirePacket_octets : NoAttr K A.c_WirePacket "octets"
  n_WirePacket_damaged : NoAttr K A.c_WirePacket "damaged"
  m_WirePacket : Mk K A.c_WirePacket A.f_WirePacket_init
  cl_Network : Cls K A.c_Network
  g_Network : mg "Network" = some (.ref A.c_Network)
  n_Network_sites : NoAttr K A.c_Network "sites"
  n_Network_wires : NoAttr K A.c_Network "wires"
  n_Network_duplicated : NoAttr K A.c_Network "duplicated"
  m_Network : Mk K A.c_Network A.f_Network_init
  cl_Packet : Cls K A.c_Packet
  g_Packet : mg "Packet" = some (.ref A.c_Packet)
  n_Packet_kind : NoAttr K A.c_Packet "kind"
  n_Packet_sender : NoAttr K A.c_Packet "sender"
  n_Packet_receiver : NoAttr K A.c_Packet "receiver"
  n_Packet_number : NoAttr K A.c_Packet "number"
  n_Packet_payload : NoAttr K A.c_Packet "payload"
  m_Packet : Mk K A.c_Packet A.f_Packet_init
  k_FEWEST_SITES : ∃ t, mg "FEWEST_SITES" = some (.int (2) t)
  k_MOST_SITES : ∃ t, mg "MOST_SITES" = some (.int (4) t)
  k_MOST_MESSAGES : ∃ t, mg "MOST_MESSAGES" = some (.int (60) t)
  k_LONGEST_PAYLOAD : ∃ t, mg "LONGEST_PAYLOAD" = some (.int (16) t)
  k_LARGEST_OCTET : ∃ t, mg "LARGEST_OCTET" = some (.int (255) t)
  k_MOST_DUPLICATED : ∃ t, mg "MOST_DUPLICATED" = some (.int (100) t)
  k_LONGEST_READ : ∃ t, mg "LONGEST_READ" = some (.int (40) t)
  k_MESSAGE : ∃ t, mg "MESSAGE" = some (.int (1) t)
  k_ACKNOWLEDGEMENT : ∃ t, mg "ACKNOWLEDGEMENT" = some (.int (2) t)
  k_CHECKSUM_FACTOR : ∃ t, mg "CHECKSUM_FACTOR" = some (.int (257) t)
  k_CHECKSUM_MODULUS : ∃ t, mg "CHECKSUM_MODULUS" = some (.int (1000000007) t)
  k_CHECKSUM_LENGTH : ∃ t, mg "CHECKSUM_LENGTH" = some (.int (4) t)
  k_MESSAGE_HEAD_LENGTH : ∃ t, mg "MESSAGE_HEAD_LENGTH" = some (.int (5) t)
  k_SHORTEST_LENGTH : ∃ t, mg "SHORTEST_LENGTH" = some (.int (8) t)
  k_NOT_READABLE : ∃ t, mg "NOT_READABLE" = some (.int (0) t)
  k_MESSAGE_RECEIVED : ∃ t, mg "MESSAGE_RECEIVED" = some (.int (1) t)
  k_MESSAGE_RECEIVED_BEFORE : ∃ t, mg "MESSAGE_RECEIVED_BEFORE" = some (.int (2) t)
  k_EARLIER_MESSAGE_MISSING : ∃ t, mg "EARLIER_MESSAGE_MISSING" = some (.int (3) t)
  k_ACKNOWLEDGED_INCREASES : ∃ t, mg "ACKNOWLEDGED_INCREASES" = some (.int (4) t)
  k_ACKNOWLEDGED_STAYS : ∃ t, mg "ACKNOWLEDGED_STAYS" = some (.int (5) t)
  k_OUTSIDE_LIMITS : ∃ t, mg "OUTSIDE_LIMITS" = some (.int (-1) t)
  k_NO_SUCH_SITE : ∃ t, mg "NO_SUCH_SITE" = some (.int (-2) t)
  k_NO_SUCH_PACKET : ∃ t, mg "NO_SUCH_PACKET" = some (.int (-3) t)
  k_NO_SITES : ∃ t, mg "NO_SITES" = some (.int (-4) t)
  k_SITES_ALREADY : ∃ t, mg "SITES_ALREADY" = some (.int (-5) t)
  k_SAME_SITE : ∃ t, mg "SAME_SITE" = some (.int (-6) t)
  k_LIMIT_REACHED : ∃ t, mg "LIMIT_REACHED" = some (.int (-7) t)
  k_MESSAGE_ON_WIRES : ∃ t, mg "MESSAGE_ON_WIRES" = some (.int (-8) t)
  k_NOT_POSSIBLE : ∃ t, mg "NOT_POSSIBLE" = some (.int (-9) t)
  g_NUMBER_COUNTS : mg "NUMBER_COUNTS" = some (.ref A.k_NUMBER_COUNTS)
  t_NUMBER_COUNTS : ∃ (o : Obj) (its : Array Value) (n : Nat), K.lookup A.k_NUMBER_COUNTS = some o ∧ o.cls = .type "tuple" ∧ o.data = .seq its n ∧ its.size ≤ sizeLine ∧ Vals [.int 1, .int 2, .int 1, .int 1, .int 1, .int 2, .int 1, .int 1, .int 1, .int 3, .int 4, .int 3, .int 2, .int 0, .int 1, .int 4, .int 0, .int 0, .int 0, .int 0] its.toList
  g_WITH_LIST : mg "WITH_LIST" = some (.ref A.k_WITH_LIST)
  t_WITH_LIST : ∃ (o : Obj) (its : Array Value) (n : Nat), K.lookup A.k_WITH_LIST = some o ∧ o.cls = .type "tuple" ∧ o.data = .seq its n ∧ its.size ≤ sizeLine ∧ Vals [.int 1, .int 15, .int 16] its.toList
  g_CHANGES : mg "CHANGES" = some (.ref A.k_CHANGES)
  t_CHANGES : ∃ (o : Obj) (its : Array Value) (n : Nat), K.lookup A.k_CHANGES = some o ∧ o.cls = .type "tuple" ∧ o.data = .seq its n ∧ its.size ≤ sizeLine ∧ Vals [.int 0, .int 1, .int 2, .int 3, .int 4, .int 5, .int 6, .int 7, .int 8, .int 9, .int 17] its.toList
  g_PACKET_CALLS : mg "PACKET_CALLS" = some (.ref A.k_PACKET_CALLS)
  t_PACKET_CALLS : ∃ (o : Obj) (its : Array Value) (n : Nat), K.lookup A.k_PACKET_CALLS = some o ∧ o.cls = .type "tuple" ∧ o.data = .seq its n ∧ its.size ≤ sizeLine ∧ Vals [.int 15, .int 16] its.toList
  b_all : mg "all" = none
  b_any : mg "any" = none
  b_len : mg "len" = none
  b_list : mg "list" = none
  b_range : mg "range" = none
  b_sum : mg "sum" = none
  f_Call_init : MtAt K "Call.__init__" "__init__" s_Call_init A.c_Call A.f_Call_init ["self", "operation", "numbers", "row"]
  f_split_calls : FnAt K mg "split_calls" s_split_calls A.f_split_calls ["calls"]
  f_SiteCopy_init : MtAt K "SiteCopy.__init__" "__init__" s_SiteCopy_init A.c_SiteCopy A.f_SiteCopy_init ["self", "site_count"]
  f_SiteCopy_sent_count : MtAt K "SiteCopy.sent_count" "sent_count" s_SiteCopy_sent_count A.c_SiteCopy A.f_SiteCopy_sent_count ["self"]
  f_SiteCopy_received_count : MtAt K "SiteCopy.received_count" "received_count" s_SiteCopy_received_count A.c_SiteCopy A.f_SiteCopy_received_count ["self"]
  f_SiteCopy_acknowledged_sum : MtAt K "SiteCopy.acknowledged_sum" "acknowledged_sum" s_SiteCopy_acknowledged_sum A.c_SiteCopy A.f_SiteCopy_acknowledged_sum ["self"]
  f_SiteCopy_copied : MtAt K "SiteCopy.copied" "copied" s_SiteCopy_copied A.c_SiteCopy A.f_SiteCopy_copied ["self"]
  f_SiteCopy_equals : MtAt K "SiteCopy.equals" "equals" s_SiteCopy_equals A.c_SiteCopy A.f_SiteCopy_equals ["self", "other"]
  f_Site_init : MtAt K "Site.__init__" "__init__" s_Site_init A.c_Site A.f_Site_init ["self", "site_count"]
  f_Site_at_risk : MtAt K "Site.at_risk" "at_risk" s_Site_at_risk A.c_Site A.f_Site_at_risk ["self"]
  f_Site_sync : MtAt K "Site.sync" "sync" s_Site_sync A.c_Site A.f_Site_sync ["self"]
  f_Site_crash : MtAt K "Site.crash" "crash" s_Site_crash A.c_Site A.f_Site_crash ["self"]
  f_WirePacket_init : MtAt K "WirePacket.__init__" "__init__" s_WirePacket_init A.c_WirePacket A.f_WirePacket_init ["self", "octets", "damaged"]
  f_WirePacket_twin : MtAt K "WirePacket.twin" "twin" s_WirePacket_twin A.c_WirePacket A.f_WirePacket_twin ["self"]
  f_Network_init : MtAt K "Network.__init__" "__init__" s_Network_init A.c_Network A.f_Network_init ["self"]
  f_Network_site : MtAt K "Network.site" "site" s_Network_site A.c_Network A.f_Network_site ["self", "number"]
  f_Network_add_sites : MtAt K "Network.add_sites" "add_sites" s_Network_add_sites A.c_Network A.f_Network_add_sites ["self", "count"]
  f_Network_pairs : MtAt K "Network.pairs" "pairs" s_Network_pairs A.c_Network A.f_Network_pairs ["self"]
  f_is_site_number : FnAt K mg "is_site_number" s_is_site_number A.f_is_site_number ["number"]
  f_is_octet : FnAt K mg "is_octet" s_is_octet A.f_is_octet ["value"]
  f_is_payload : FnAt K mg "is_payload" s_is_payload A.f_is_payload ["row"]
  f_is_copy_number : FnAt K mg "is_copy_number" s_is_copy_number A.f_is_copy_number ["number"]
  f_is_message_number : FnAt K mg "is_message_number" s_is_message_number A.f_is_message_number ["number"]
  f_is_message_count : FnAt K mg "is_message_count" s_is_message_count A.f_is_message_count ["count"]
  f_Packet_init : MtAt K "Packet.__init__" "__init__" s_Packet_init A.c_Packet A.f_Packet_init ["self", "kind", "sender", "receiver", "number", "payload"]
  f_checksum_of : FnAt K mg "checksum_of" s_checksum_of A.f_checksum_of ["octets"]
  f_octets_of : FnAt K mg "octets_of" s_octets_of A.f_octets_of ["packet"]
  f_has_valid_fields : FnAt K mg "has_valid_fields" s_has_valid_fields A.f_has_valid_fields ["packet"]
  f_packet_of : FnAt K mg "packet_of" s_packet_of A.f_packet_of ["octets"]
  f_put_on_wires : FnAt K mg "put_on_wires" s_put_on_wires A.f_put_on_wires ["network", "packet"]
  f_transmit_durable : FnAt K mg "transmit_durable" s_transmit_durable A.f_transmit_durable ["network", "sender", "receiver"]
  f_has_message : FnAt K mg "has_message" s_has_message A.f_has_message ["network", "sender", "receiver"]
  f_take_acknowledgement : FnAt K mg "take_acknowledgement" s_take_acknowledgement A.f_take_acknowledgement ["present", "packet"]
  f_take_message : FnAt K mg "take_message" s_take_message A.f_take_message ["present", "packet"]
  f_deliver_packet : FnAt K mg "deliver_packet" s_deliver_packet A.f_deliver_packet ["network", "index"]
  f_deliver_all : FnAt K mg "deliver_all" s_deliver_all A.f_deliver_all ["network"]
  f_sync_all : FnAt K mg "sync_all" s_sync_all A.f_sync_all ["network"]
  f_perform_exchange : FnAt K mg "perform_exchange" s_perform_exchange A.f_perform_exchange ["network"]
  f_sites_refusal : FnAt K mg "sites_refusal" s_sites_refusal A.f_sites_refusal ["network", "numbers", "others_fit"]
  f_pair_refusal : FnAt K mg "pair_refusal" s_pair_refusal A.f_pair_refusal ["network", "one", "other", "others_fit"]
  f_packet_refusal : FnAt K mg "packet_refusal" s_packet_refusal A.f_packet_refusal ["network", "index", "others_fit"]
  f_create_sites : FnAt K mg "create_sites" s_create_sites A.f_create_sites ["network", "count"]
  f_post : FnAt K mg "post" s_post A.f_post ["network", "sender", "receiver", "payload"]
  f_sync : FnAt K mg "sync" s_sync A.f_sync ["network", "number"]
  f_crash : FnAt K mg "crash" s_crash A.f_crash ["network", "number"]
  f_at_risk : FnAt K mg "at_risk" s_at_risk A.f_at_risk ["network", "number"]
  f_transmit : FnAt K mg "transmit" s_transmit A.f_transmit ["network", "sender", "receiver"]
  f_deliver : FnAt K mg "deliver" s_deliver A.f_deliver ["network", "index"]
  f_lose : FnAt K mg "lose" s_lose A.f_lose ["network", "index"]
  f_duplicate : FnAt K mg "duplicate" s_duplicate A.f_duplicate ["network", "index"]
  f_damage : FnAt K mg "damage" s_damage A.f_damage ["network", "index", "position", "value"]
  f_exchange : FnAt K mg "exchange" s_exchange A.f_exchange ["network"]
  f_answer_change : FnAt K mg "answer_change" s_answer_change A.f_answer_change ["network", "operation", "numbers", "row"]
  f_received : FnAt K mg "received" s_received A.f_received ["network", "number", "sender", "first", "count"]
  f_link_state : FnAt K mg "link_state" s_link_state A.f_link_state ["network", "number", "other", "copy_number"]
  f_unsettled : FnAt K mg "unsettled" s_unsettled A.f_unsettled ["network", "sender", "receiver"]
  f_listed_fields : FnAt K mg "listed_fields" s_listed_fields A.f_listed_fields ["packet"]
  f_list_packets : FnAt K mg "list_packets" s_list_packets A.f_list_packets ["network"]
  f_packet_bytes : FnAt K mg "packet_bytes" s_packet_bytes A.f_packet_bytes ["network", "index"]
  f_all_arrived : FnAt K mg "all_arrived" s_all_arrived A.f_all_arrived ["network"]
  f_all_durable : FnAt K mg "all_durable" s_all_durable A.f_all_durable ["network"]
  f_is_settled : FnAt K mg "is_settled" s_is_settled A.f_is_settled ["network"]
  f_totals : FnAt K mg "totals" s_totals A.f_totals ["network"]
  f_answer_look : FnAt K mg "answer_look" s_answer_look A.f_answer_look ["network", "operation", "numbers"]
  f_write_packet : FnAt K mg "write_packet" s_write_packet A.f_write_packet ["kind", "sender", "receiver", "number", "payload"]
  f_read_packet : FnAt K mg "read_packet" s_read_packet A.f_read_packet ["octets"]
  f_answer_packet_call : FnAt K mg "answer_packet_call" s_answer_packet_call A.f_answer_packet_call ["operation", "numbers", "row"]
  f_answer_call : FnAt K mg "answer_call" s_answer_call A.f_answer_call ["network", "call"]
  f_answers : FnAt K mg "answers" s_answers A.f_answers ["calls"]
/-! ## An object's fields: the list, what is looked up, what is put. Printed by gen.py -/
theorem lk_here {k : Str} {v : V} {r : List (Str × V)} : List.lookup k ((k, v) :: r) = some v := by
  have e : (k == k) = true := beq_self_eq_true k
  simp only [List.lookup, e]
theorem lk_past {k g : Str} {v : V} {r : List (Str × V)} (h : (k == g) = false) : List.lookup k ((g, v) :: r) = List.lookup k r := by
  simp only [List.lookup, h]
theorem put_here {f : Str} {v x : V} {r : List (Str × V)} : putF f v ((f, x) :: r) = (f, v) :: r := if_pos rfl
theorem put_past {f g : Str} {v x : V} {r : List (Str × V)} (h : ¬ g = f) : putF f v ((g, x) :: r) = (g, x) :: putF f v r := if_neg h
def fl_Call (v0 v1 v2 : V) : List (Str × V) := [("operation", v0), ("numbers", v1), ("row", v2)]
section
variable {v0 v1 v2 : V}
theorem fl_Call_operation : (fl_Call v0 v1 v2).lookup ("operation" : Str) = some v0 := lk_here
theorem fl_Call_put_operation (x : V) : putF "operation" x (fl_Call v0 v1 v2) = fl_Call x v1 v2 := put_here
theorem fl_Call_numbers : (fl_Call v0 v1 v2).lookup ("numbers" : Str) = some v1 := (lk_past (by decide +kernel)).trans (lk_here)
theorem fl_Call_put_numbers (x : V) : putF "numbers" x (fl_Call v0 v1 v2) = fl_Call v0 x v2 := (put_past (by decide +kernel)).trans (congrArg _ (put_here))
theorem fl_Call_row : (fl_Call v0 v1 v2).lookup ("row" : Str) = some v2 := (lk_past (by decide +kernel)).trans ((lk_past (by decide +kernel)).trans (lk_here))
theorem fl_Call_put_row (x : V) : putF "row" x (fl_Call v0 v1 v2) = fl_Call v0 v1 x := (put_past (by decide +kernel)).trans (congrArg _ ((put_past (by decide +kernel)).trans (congrArg _ (put_here))))
theorem fl_Call_new : putF "row" v2 (putF "numbers" v1 (putF "operation" v0 ([]))) = fl_Call v0 v1 v2 := by
  have n : ∀ (f : Str) (v : V), putF f v [] = [(f, v)] := fun _ _ => rfl
  rw [n, show putF "numbers" v1 ([("operation", v0)] : List (Str × V)) = ([("operation", v0), ("numbers", v1)] : List (Str × V)) from (put_past (by decide +kernel)).trans (congrArg _ (n _ _)), show putF "row" v2 ([("operation", v0), ("numbers", v1)] : List (Str × V)) = ([("operation", v0), ("numbers", v1), ("row", v2)] : List (Str × V)) from (put_past (by decide +kernel)).trans (congrArg _ ((put_past (by decide +kernel)).trans (congrArg _ (n _ _))))] <;> rfl
theorem fl_Call_few : (fl_Call v0 v1 v2).length < 1000 := by show 3 < 1000; decide
end
def fl_SiteCopy (v0 v1 v2 : V) : List (Str × V) := [("sent", v0), ("acknowledged", v1), ("received", v2)]
section
variable {v0 v1 v2 : V}
theorem fl_SiteCopy_sent : (fl_SiteCopy v0 v1 v2).lookup ("sent" : Str) = some v0 := lk_here
theorem fl_SiteCopy_put_sent (x : V) : putF "sent" x (fl_SiteCopy v0 v1 v2) = fl_SiteCopy x v1 v2 := put_here
theorem fl_SiteCopy_acknowledged : (fl_SiteCopy v0 v1 v2).lookup ("acknowledged" : Str) = some v1 := (lk_past (by decide +kernel)).trans (lk_here)
theorem fl_SiteCopy_put_acknowledged (x : V) : putF "acknowledged" x (fl_SiteCopy v0 v1 v2) = fl_SiteCopy v0 x v2 := (put_past (by decide +kernel)).trans (congrArg _ (put_here))
theorem fl_SiteCopy_received : (fl_SiteCopy v0 v1 v2).lookup ("received" : Str) = some v2 := (lk_past (by decide +kernel)).trans ((lk_past (by decide +kernel)).trans (lk_here))
theorem fl_SiteCopy_put_received (x : V) : putF "received" x (fl_SiteCopy v0 v1 v2) = fl_SiteCopy v0 v1 x := (put_past (by decide +kernel)).trans (congrArg _ ((put_past (by decide +kernel)).trans (congrArg _ (put_here))))
theorem fl_SiteCopy_new : putF "received" v2 (putF "acknowledged" v1 (putF "sent" v0 ([]))) = fl_SiteCopy v0 v1 v2 := by
  have n : ∀ (f : Str) (v : V), putF f v [] = [(f, v)] := fun _ _ => rfl
  rw [n, show putF "acknowledged" v1 ([("sent", v0)] : List (Str × V)) = ([("sent", v0), ("acknowledged", v1)] : List (Str × V)) from (put_past (by decide +kernel)).trans (congrArg _ (n _ _)), show putF "received" v2 ([("sent", v0), ("acknowledged", v1)] : List (Str × V)) = ([("sent", v0), ("acknowledged", v1), ("received", v2)] : List (Str × V)) from (put_past (by decide +kernel)).trans (congrArg _ ((put_past (by decide +kernel)).trans (congrArg _ (n _ _))))] <;> rfl
theorem fl_SiteCopy_m_sent_count : (fl_SiteCopy v0 v1 v2).lookup ("sent_count" : Str) = none := (lk_past (by decide +kernel)).trans ((lk_past (by decide +kernel)).trans ((lk_past (by decide +kernel)).trans (rfl)))
theorem fl_SiteCopy_m_received_count : (fl_SiteCopy v0 v1 v2).lookup ("received_count" : Str) = none := (lk_past (by decide +kernel)).trans ((lk_past (by decide +kernel)).trans ((lk_past (by decide +kernel)).trans (rfl)))
theorem fl_SiteCopy_m_acknowledged_sum : (fl_SiteCopy v0 v1 v2).lookup ("acknowledged_sum" : Str) = none := (lk_past (by decide +kernel)).trans ((lk_past (by decide +kernel)).trans ((lk_past (by decide +kernel)).trans (rfl)))
theorem fl_SiteCopy_m_copied : (fl_SiteCopy v0 v1 v2).lookup ("copied" : Str) = none := (lk_past (by decide +kernel)).trans ((lk_past (by decide +kernel)).trans ((lk_past (by decide +kernel)).trans (rfl)))
theorem fl_SiteCopy_m_equals : (fl_SiteCopy v0 v1 v2).lookup ("equals" : Str) = none := (lk_past (by decide +kernel)).trans ((lk_past (by decide +kernel)).trans ((lk_past (by decide +kernel)).trans (rfl)))
theorem fl_SiteCopy_few : (fl_SiteCopy v0 v1 v2).length < 1000 := by show 3 < 1000; decide
end
def fl_Site (v0 v1 : V) : List (Str × V) := [("present", v0), ("durable", v1)]
section
variable {v0 v1 : V}
theorem fl_Site_present : (fl_Site v0 v1).lookup ("present" : Str) = some v0 := lk_here
theorem fl_Site_put_present (x : V) : putF "present" x (fl_Site v0 v1) = fl_Site x v1 := put_here
theorem fl_Site_durable : (fl_Site v0 v1).lookup ("durable" : Str) = some v1 := (lk_past (by decide +kernel)).trans (lk_here)
theorem fl_Site_put_durable (x : V) : putF "durable" x (fl_Site v0 v1) = fl_Site v0 x := (put_past (by decide +kernel)).trans (congrArg _ (put_here))
theorem fl_Site_new : putF "durable" v1 (putF "present" v0 ([])) = fl_Site v0 v1 := by
  have n : ∀ (f : Str) (v : V), putF f v [] = [(f, v)] := fun _ _ => rfl
  rw [n, show putF "durable" v1 ([("present", v0)] : List (Str × V)) = ([("present", v0), ("durable", v1)] : List (Str × V)) from (put_past (by decide +kernel)).trans (congrArg _ (n _ _))] <;> rfl
theorem fl_Site_m_at_risk : (fl_Site v0 v1).lookup ("at_risk" : Str) = none := (lk_past (by decide +kernel)).trans ((lk_past (by decide +kernel)).trans (rfl))
theorem fl_Site_m_sync : (fl_Site v0 v1).lookup ("sync" : Str) = none := (lk_past (by decide +kernel)).trans ((lk_past (by decide +kernel)).trans (rfl))
theorem fl_Site_m_crash : (fl_Site v0 v1).lookup ("crash" : Str) = none := (lk_past (by decide +kernel)).trans ((lk_past (by decide +kernel)).trans (rfl))
theorem fl_Site_few : (fl_Site v0 v1).length < 1000 := by show 2 < 1000; decide
end
def fl_WirePacket (v0 v1 : V) : List (Str × V) := [("octets", v0), ("damaged", v1)]
section
variable {v0 v1 : V}
theorem fl_WirePacket_octets : (fl_WirePacket v0 v1).lookup ("octets" : Str) = some v0 := lk_here
theorem fl_WirePacket_put_octets (x : V) : putF "octets" x (fl_WirePacket v0 v1) = fl_WirePacket x v1 := put_here
theorem fl_WirePacket_damaged : (fl_WirePacket v0 v1).lookup ("damaged" : Str) = some v1 := (lk_past (by decide +kernel)).trans (lk_here)
theorem fl_WirePacket_put_damaged (x : V) : putF "damaged" x (fl_WirePacket v0 v1) = fl_WirePacket v0 x := (put_past (by decide +kernel)).trans (congrArg _ (put_here))
theorem fl_WirePacket_new : putF "damaged" v1 (putF "octets" v0 ([])) = fl_WirePacket v0 v1 := by
  have n : ∀ (f : Str) (v : V), putF f v [] = [(f, v)] := fun _ _ => rfl
  rw [n, show putF "damaged" v1 ([("octets", v0)] : List (Str × V)) = ([("octets", v0), ("damaged", v1)] : List (Str × V)) from (put_past (by decide +kernel)).trans (congrArg _ (n _ _))] <;> rfl
theorem fl_WirePacket_m_twin : (fl_WirePacket v0 v1).lookup ("twin" : Str) = none := (lk_past (by decide +kernel)).trans ((lk_past (by decide +kernel)).trans (rfl))
theorem fl_WirePacket_few : (fl_WirePacket v0 v1).length < 1000 := by show 2 < 1000; decide
end
def fl_Network (v0 v1 v2 : V) : List (Str × V) := [("sites", v0), ("wires", v1), ("duplicated", v2)]
section
variable {v0 v1 v2 : V}
theorem fl_Network_sites : (fl_Network v0 v1 v2).lookup ("sites" : Str) = some v0 := lk_here
theorem fl_Network_put_sites (x : V) : putF "sites" x (fl_Network v0 v1 v2) = fl_Network x v1 v2 := put_here
theorem fl_Network_wires : (fl_Network v0 v1 v2).lookup ("wires" : Str) = some v1 := (lk_past (by decide +kernel)).trans (lk_here)
theorem fl_Network_put_wires (x : V) : putF "wires" x (fl_Network v0 v1 v2) = fl_Network v0 x v2 := (put_past (by decide +kernel)).trans (congrArg _ (put_here))
theorem fl_Network_duplicated : (fl_Network v0 v1 v2).lookup ("duplicated" : Str) = some v2 := (lk_past (by decide +kernel)).trans ((lk_past (by decide +kernel)).trans (lk_here))
theorem fl_Network_put_duplicated (x : V) : putF "duplicated" x (fl_Network v0 v1 v2) = fl_Network v0 v1 x := (put_past (by decide +kernel)).trans (congrArg _ ((put_past (by decide +kernel)).trans (congrArg _ (put_here))))
theorem fl_Network_new : putF "duplicated" v2 (putF "wires" v1 (putF "sites" v0 ([]))) = fl_Network v0 v1 v2 := by
  have n : ∀ (f : Str) (v : V), putF f v [] = [(f, v)] := fun _ _ => rfl
  rw [n, show putF "wires" v1 ([("sites", v0)] : List (Str × V)) = ([("sites", v0), ("wires", v1)] : List (Str × V)) from (put_past (by decide +kernel)).trans (congrArg _ (n _ _)), show putF "duplicated" v2 ([("sites", v0), ("wires", v1)] : List (Str × V)) = ([("sites", v0), ("wires", v1), ("duplicated", v2)] : List (Str × V)) from (put_past (by decide +kernel)).trans (congrArg _ ((put_past (by decide +kernel)).trans (congrArg _ (n _ _))))] <;> rfl
theorem fl_Network_m_site : (fl_Network v0 v1 v2).lookup ("site" : Str) = none := (lk_past (by decide +kernel)).trans ((lk_past (by decide +kernel)).trans ((lk_past (by decide +kernel)).trans (rfl)))
theorem fl_Network_m_add_sites : (fl_Network v0 v1 v2).lookup ("add_sites" : Str) = none := (lk_past (by decide +kernel)).trans ((lk_past (by decide +kernel)).trans ((lk_past (by decide +kernel)).trans (rfl)))
theorem fl_Network_m_pairs : (fl_Network v0 v1 v2).lookup ("pairs" : Str) = none := (lk_past (by decide +kernel)).trans ((lk_past (by decide +kernel)).trans ((lk_past (by decide +kernel)).trans (rfl)))
theorem fl_Network_few : (fl_Network v0 v1 v2).length < 1000 := by show 3 < 1000; decide
end
def fl_Packet (v0 v1 v2 v3 v4 : V) : List (Str × V) := [("kind", v0), ("sender", v1), ("receiver", v2), ("number", v3), ("payload", v4)]
section
variable {v0 v1 v2 v3 v4 : V}
theorem fl_Packet_kind : (fl_Packet v0 v1 v2 v3 v4).lookup ("kind" : Str) = some v0 := lk_here
theorem fl_Packet_put_kind (x : V) : putF "kind" x (fl_Packet v0 v1 v2 v3 v4) = fl_Packet x v1 v2 v3 v4 := put_here
theorem fl_Packet_sender : (fl_Packet v0 v1 v2 v3 v4).lookup ("sender" : Str) = some v1 := (lk_past (by decide +kernel)).trans (lk_here)
theorem fl_Packet_put_sender (x : V) : putF "sender" x (fl_Packet v0 v1 v2 v3 v4) = fl_Packet v0 x v2 v3 v4 := (put_past (by decide +kernel)).trans (congrArg _ (put_here))
theorem fl_Packet_receiver : (fl_Packet v0 v1 v2 v3 v4).lookup ("receiver" : Str) = some v2 := (lk_past (by decide +kernel)).trans ((lk_past (by decide +kernel)).trans (lk_here))
theorem fl_Packet_put_receiver (x : V) : putF "receiver" x (fl_Packet v0 v1 v2 v3 v4) = fl_Packet v0 v1 x v3 v4 := (put_past (by decide +kernel)).trans (congrArg _ ((put_past (by decide +kernel)).trans (congrArg _ (put_here))))
theorem fl_Packet_number : (fl_Packet v0 v1 v2 v3 v4).lookup ("number" : Str) = some v3 := (lk_past (by decide +kernel)).trans ((lk_past (by decide +kernel)).trans ((lk_past (by decide +kernel)).trans (lk_here)))
theorem fl_Packet_put_number (x : V) : putF "number" x (fl_Packet v0 v1 v2 v3 v4) = fl_Packet v0 v1 v2 x v4 := (put_past (by decide +kernel)).trans (congrArg _ ((put_past (by decide +kernel)).trans (congrArg _ ((put_past (by decide +kernel)).trans (congrArg _ (put_here))))))
theorem fl_Packet_payload : (fl_Packet v0 v1 v2 v3 v4).lookup ("payload" : Str) = some v4 := (lk_past (by decide +kernel)).trans ((lk_past (by decide +kernel)).trans ((lk_past (by decide +kernel)).trans ((lk_past (by decide +kernel)).trans (lk_here))))
theorem fl_Packet_put_payload (x : V) : putF "payload" x (fl_Packet v0 v1 v2 v3 v4) = fl_Packet v0 v1 v2 v3 x := (put_past (by decide +kernel)).trans (congrArg _ ((put_past (by decide +kernel)).trans (congrArg _ ((put_past (by decide +kernel)).trans (congrArg _ ((put_past (by decide +kernel)).trans (congrArg _ (put_here))))))))
theorem fl_Packet_new : putF "payload" v4 (putF "number" v3 (putF "receiver" v2 (putF "sender" v1 (putF "kind" v0 ([]))))) = fl_Packet v0 v1 v2 v3 v4 := by
  have n : ∀ (f : Str) (v : V), putF f v [] = [(f, v)] := fun _ _ => rfl
  rw [n, show putF "sender" v1 ([("kind", v0)] : List (Str × V)) = ([("kind", v0), ("sender", v1)] : List (Str × V)) from (put_past (by decide +kernel)).trans (congrArg _ (n _ _)), show putF "receiver" v2 ([("kind", v0), ("sender", v1)] : List (Str × V)) = ([("kind", v0), ("sender", v1), ("receiver", v2)] : List (Str × V)) from (put_past (by decide +kernel)).trans (congrArg _ ((put_past (by decide +kernel)).trans (congrArg _ (n _ _)))), show putF "number" v3 ([("kind", v0), ("sender", v1), ("receiver", v2)] : List (Str × V)) = ([("kind", v0), ("sender", v1), ("receiver", v2), ("number", v3)] : List (Str × V)) from (put_past (by decide +kernel)).trans (congrArg _ ((put_past (by decide +kernel)).trans (congrArg _ ((put_past (by decide +kernel)).trans (congrArg _ (n _ _)))))), show putF "payload" v4 ([("kind", v0), ("sender", v1), ("receiver", v2), ("number", v3)] : List (Str × V)) = ([("kind", v0), ("sender", v1), ("receiver", v2), ("number", v3), ("payload", v4)] : List (Str × V)) from (put_past (by decide +kernel)).trans (congrArg _ ((put_past (by decide +kernel)).trans (congrArg _ ((put_past (by decide +kernel)).trans (congrArg _ ((put_past (by decide +kernel)).trans (congrArg _ (n _ _))))))))] <;> rfl
theorem fl_Packet_few : (fl_Packet v0 v1 v2 v3 v4).length < 1000 := by show 5 < 1000; decide
end
end Sur
namespace Sur
open PySem PySem.Spec PyProof.Rows L2 Evl
variable {P : Program} {w : World} {K : PySem.W.Frag} {mg : Str → Option Value} {base : Heap} {A : Ads} {W : Addr → Prop}
/-! ## Promises and readings: numbers, packets -/
def byV (l : List Nat) : List V := l.map fun (b : Nat) => V.int (b : Int)
theorem byV_len (l : List Nat) : (byV l).length = l.length := List.length_map _
theorem byV_app (a b : List Nat) : byV (a ++ b) = byV a ++ byV b := List.map_append
theorem byV_at {l : List Nat} {i : Nat} {y : V} (h : (byV l)[i]? = some y) : ∃ b, l[i]? = some b ∧ y = V.int (b : Int) := by
  unfold byV at h
  rw [List.getElem?_map] at h
  cases e : l[i]? with
  | none => rw [e] at h; cases h
  | some b => rw [e] at h; exact ⟨b, rfl, (Option.some.inj h).symm⟩
theorem at_byV {l : List Nat} {i b : Nat} (h : l[i]? = some b) : (byV l)[i]? = some (V.int (b : Int)) := by
  unfold byV
  rw [List.getElem?_map, h] <;> rfl

def sp_is_site_number (K : PySem.W.Frag) (A : Ads) : Sp := fun vs H Q _ => ∃ n : Int, vs = [.int n] ∧ ∀ H2, Ex H H2 → Q (.bl (decide (1 ≤ n) && decide (n ≤ 4))) H2
theorem len_is_site_number : ∀ vs H Q E, sp_is_site_number K A vs H Q E → vs.length = (["number"] : List Str).length := by
  rintro vs H Q E ⟨n, rfl, _⟩
  rfl
def t_is_site_number (K : PySem.W.Frag) (A : Ads) : TS :=
 tRet (tChain rLe rLe (tC (.int 1)) (tVar 0) (tC (.int (4))))
theorem pure_is_site_number (T : Txt K mg A) (vs : List V) (H : Hp) (Q : VK) (E : XK) (h : sp_is_site_number K A vs H Q E) : t_is_site_number K A { nx := fun _ H' => Q .non H', rt := Q } (start ["number"] vs) H := by
  obtain ⟨n, rfl, k⟩ := h
  exact s_ret (ev_chain ev_c (ev_var rfl) rv_I0 (fun _ => ev_c) (fun _ => rv_I0)) k
theorem sv_is_site_number {n : Int} {H : Hp} : SpV (sp_is_site_number K A) [.int n] H (.bl (decide (1 ≤ n) && decide (n ≤ 4))) := fun H1 _ Q q E => ⟨n, rfl, q⟩

def sp_is_octet (K : PySem.W.Frag) (A : Ads) : Sp := fun vs H Q _ => ∃ n : Int, vs = [.int n] ∧ ∀ H2, Ex H H2 → Q (.bl (decide (0 ≤ n) && decide (n ≤ 255))) H2
theorem len_is_octet : ∀ vs H Q E, sp_is_octet K A vs H Q E → vs.length = (["value"] : List Str).length := by
  rintro vs H Q E ⟨n, rfl, _⟩
  rfl
def t_is_octet (K : PySem.W.Frag) (A : Ads) : TS :=
 tRet (tChain rLe rLe (tC (.int 0)) (tVar 0) (tC (.int (255))))
theorem pure_is_octet (T : Txt K mg A) (vs : List V) (H : Hp) (Q : VK) (E : XK) (h : sp_is_octet K A vs H Q E) : t_is_octet K A { nx := fun _ H' => Q .non H', rt := Q } (start ["value"] vs) H := by
  obtain ⟨n, rfl, k⟩ := h
  exact s_ret (ev_chain ev_c (ev_var rfl) rv_I0 (fun _ => ev_c) (fun _ => rv_I0)) k
theorem sv_is_octet {n : Int} {H : Hp} : SpV (sp_is_octet K A) [.int n] H (.bl (decide (0 ≤ n) && decide (n ≤ 255))) := fun H1 _ Q q E => ⟨n, rfl, q⟩

def sp_is_copy_number (K : PySem.W.Frag) (A : Ads) : Sp := fun vs H Q _ => ∃ n : Int, vs = [.int n] ∧ ∀ H2, Ex H H2 → Q (.bl (decide (0 ≤ n) && decide (n ≤ 1))) H2
theorem len_is_copy_number : ∀ vs H Q E, sp_is_copy_number K A vs H Q E → vs.length = (["number"] : List Str).length := by
  rintro vs H Q E ⟨n, rfl, _⟩
  rfl
def t_is_copy_number (K : PySem.W.Frag) (A : Ads) : TS :=
 tRet (tChain rLe rLe (tC (.int 0)) (tVar 0) (tC (.int 1)))
theorem pure_is_copy_number (T : Txt K mg A) (vs : List V) (H : Hp) (Q : VK) (E : XK) (h : sp_is_copy_number K A vs H Q E) : t_is_copy_number K A { nx := fun _ H' => Q .non H', rt := Q } (start ["number"] vs) H := by
  obtain ⟨n, rfl, k⟩ := h
  exact s_ret (ev_chain ev_c (ev_var rfl) rv_I0 (fun _ => ev_c) (fun _ => rv_I0)) k
theorem sv_is_copy_number {n : Int} {H : Hp} : SpV (sp_is_copy_number K A) [.int n] H (.bl (decide (0 ≤ n) && decide (n ≤ 1))) := fun H1 _ Q q E => ⟨n, rfl, q⟩

def sp_is_message_number (K : PySem.W.Frag) (A : Ads) : Sp := fun vs H Q _ => ∃ n : Int, vs = [.int n] ∧ ∀ H2, Ex H H2 → Q (.bl (decide (1 ≤ n) && decide (n ≤ 60))) H2
theorem len_is_message_number : ∀ vs H Q E, sp_is_message_number K A vs H Q E → vs.length = (["number"] : List Str).length := by
  rintro vs H Q E ⟨n, rfl, _⟩
  rfl
def t_is_message_number (K : PySem.W.Frag) (A : Ads) : TS :=
 tRet (tChain rLe rLe (tC (.int 1)) (tVar 0) (tC (.int (60))))
theorem pure_is_message_number (T : Txt K mg A) (vs : List V) (H : Hp) (Q : VK) (E : XK) (h : sp_is_message_number K A vs H Q E) : t_is_message_number K A { nx := fun _ H' => Q .non H', rt := Q } (start ["number"] vs) H := by
  obtain ⟨n, rfl, k⟩ := h
  exact s_ret (ev_chain ev_c (ev_var rfl) rv_I0 (fun _ => ev_c) (fun _ => rv_I0)) k
theorem sv_is_message_number {n : Int} {H : Hp} : SpV (sp_is_message_number K A) [.int n] H (.bl (decide (1 ≤ n) && decide (n ≤ 60))) := fun H1 _ Q q E => ⟨n, rfl, q⟩

def sp_is_message_count (K : PySem.W.Frag) (A : Ads) : Sp := fun vs H Q _ => ∃ n : Int, vs = [.int n] ∧ ∀ H2, Ex H H2 → Q (.bl (decide (0 ≤ n) && decide (n ≤ 60))) H2
theorem len_is_message_count : ∀ vs H Q E, sp_is_message_count K A vs H Q E → vs.length = (["count"] : List Str).length := by
  rintro vs H Q E ⟨n, rfl, _⟩
  rfl
def t_is_message_count (K : PySem.W.Frag) (A : Ads) : TS :=
 tRet (tChain rLe rLe (tC (.int 0)) (tVar 0) (tC (.int (60))))
theorem pure_is_message_count (T : Txt K mg A) (vs : List V) (H : Hp) (Q : VK) (E : XK) (h : sp_is_message_count K A vs H Q E) : t_is_message_count K A { nx := fun _ H' => Q .non H', rt := Q } (start ["count"] vs) H := by
  obtain ⟨n, rfl, k⟩ := h
  exact s_ret (ev_chain ev_c (ev_var rfl) rv_I0 (fun _ => ev_c) (fun _ => rv_I0)) k
theorem sv_is_message_count {n : Int} {H : Hp} : SpV (sp_is_message_count K A) [.int n] H (.bl (decide (0 ≤ n) && decide (n ≤ 60))) := fun H1 _ Q q E => ⟨n, rfl, q⟩

def sp_is_payload (K : PySem.W.Frag) (A : Ads) : Sp := fun vs H Q _ => ∃ (a : Addr) (ns : List Int), vs = [.ref a] ∧ SqL K H a (ns.map V.int) ∧ ns.length ≤ 1000 ∧ ∀ H2, Ex H H2 → Q (.bl (Vbxlac.areBytes ns 16)) H2
theorem len_is_payload : ∀ vs H Q E, sp_is_payload K A vs H Q E → vs.length = (["row"] : List Str).length := by
  rintro vs H Q E ⟨a, ns, rfl, _⟩
  rfl
def t_is_payload (K : PySem.W.Frag) (A : Ads) : TS :=
 tRet (tAndV (tOp (rLe) (tCB (rLenS K) (tCons (tVar 0) (tNil))) (tC (.int (16)))) (tCB (rAll K) (tCons (tLc (iList K (tVar 0)) (gName 1) (tYes) (tCall (sp_is_octet K A) [] E0 (tCons (tVar 1) (tNil))) [1]) (tNil))))
theorem int_at {l : List Int} {i : Nat} {y : V} (h : (l.map V.int)[i]? = some y) : ∃ b, l[i]? = some b ∧ y = V.int b := by
  rw [List.getElem?_map] at h
  cases e : l[i]? with
  | none => rw [e] at h; cases h
  | some b => rw [e] at h; exact ⟨b, rfl, (Option.some.inj h).symm⟩
theorem pure_is_payload (T : Txt K mg A) (vs : List V) (H : Hp) (Q : VK) (E : XK) (h : sp_is_payload K A vs H Q E) : t_is_payload K A { nx := fun _ H' => Q .non H', rt := Q } (start ["row", "value"] vs) H := by
  obtain ⟨a, ns, rfl, hs, hz, k⟩ := h
  refine s_ret (v := .bl (Vbxlac.areBytes ns 16)) ?_ k
  have e : Vbxlac.areBytes ns 16 = (decide (((ns.map V.int).length : Int) ≤ 16) && (ns.map fun n => decide ((0 : Int) ≤ n) && decide (n ≤ 255)).all id) := by
    unfold Vbxlac.areBytes Vbxlac.inRange
    rw [List.length_map, List.all_map]
    congr 1
    exact decide_eq_decide.mpr (by omega)
  rw [e]
  refine ev_andV (ev_op (ev_len (ev_var rfl) hs) ev_c rv_I0) fun _ => ?_
  refine ev_allN (el_map (ev_var rfl) hs (by rw [List.length_map]; omega) (fun _ => rfl) (by simp) fun i x y H1 e1 hx hy => ?_)
  obtain ⟨b, hb, rfl⟩ := int_at hx
  have hy' : y = .bl (decide ((0 : Int) ≤ b) && decide (b ≤ 255)) := by
    rw [List.getElem?_map, List.getElem?_map, hb] at hy
    exact (Option.some.inj hy).symm
  rw [hy']
  exact ev_call (ea_cons (ev_var rfl) ea_nil) sv_is_octet
theorem sv_is_payload {a : Addr} {ns : List Int} {H : Hp} (hs : SqL K H a (ns.map V.int)) (hz : ns.length ≤ 1000) : SpV (sp_is_payload K A) [.ref a] H (.bl (Vbxlac.areBytes ns 16)) := fun H1 e Q q E => ⟨a, ns, rfl, ex_l e hs, hz, q⟩

/-! ### objects made with their fields -/
def sp_Packet_init (K : PySem.W.Frag) (A : Ads) : Sp := fun vs H Q _ => ∃ (p dx : Addr) (v0 v1 v2 v3 v4 : V), vs = [.ref p, v0, v1, v2, v3, v4] ∧ H p = some (.ins A.c_Packet dx []) ∧ Q .non (upd H p (.ins A.c_Packet dx (fl_Packet v0 v1 v2 v3 v4)))
theorem len_Packet_init : ∀ vs H Q E, sp_Packet_init K A vs H Q E → vs.length = (["self", "kind", "sender", "receiver", "number", "payload"] : List Str).length := by
  rintro vs H Q E ⟨p, dx, v0, v1, v2, v3, v4, rfl, _⟩
  rfl
def t_Packet_init (K : PySem.W.Frag) (A : Ads) : TS :=
 tSeq (sFld K (tVar 0) (tVar 1) "kind")
 (tSeq (sFld K (tVar 0) (tVar 2) "sender")
 (tSeq (sFld K (tVar 0) (tVar 3) "receiver")
 (tSeq (sFld K (tVar 0) (tVar 4) "number")
 (sFld K (tVar 0) (tVar 5) "payload"))))
theorem pure_Packet_init (T : Txt K mg A) (vs : List V) (H : Hp) (Q : VK) (E : XK) (h : sp_Packet_init K A vs H Q E) : t_Packet_init K A { nx := fun _ H' => Q .non H', rt := Q } (start ["self", "kind", "sender", "receiver", "number", "payload"] vs) H := by
  obtain ⟨p, dx, v0, v1, v2, v3, v4, rfl, hp, k⟩ := h
  refine s_init 0 rfl rfl hp T.cl_Packet T.n_Packet_kind (Nat.le_refl _) (by decide) fun l hp => ?_
  refine s_init 1 rfl rfl hp T.cl_Packet T.n_Packet_sender l (by decide) fun l hp => ?_
  refine s_init 2 rfl rfl hp T.cl_Packet T.n_Packet_receiver l (by decide) fun l hp => ?_
  refine s_init 3 rfl rfl hp T.cl_Packet T.n_Packet_number l (by decide) fun l hp => ?_
  refine s_init 4 rfl rfl hp T.cl_Packet T.n_Packet_payload l (by decide) fun l hp => ?_
  show Q .non (upd (upd (upd (upd (upd H p _) p _) p _) p _) p _)
  rw [upd_upd, upd_upd, upd_upd, upd_upd, fl_Packet_new]
  exact k
def sp_WirePacket_init (K : PySem.W.Frag) (A : Ads) : Sp := fun vs H Q _ => ∃ (p dx : Addr) (v0 v1 : V), vs = [.ref p, v0, v1] ∧ H p = some (.ins A.c_WirePacket dx []) ∧ Q .non (upd H p (.ins A.c_WirePacket dx (fl_WirePacket v0 v1)))
theorem len_WirePacket_init : ∀ vs H Q E, sp_WirePacket_init K A vs H Q E → vs.length = (["self", "octets", "damaged"] : List Str).length := by
  rintro vs H Q E ⟨p, dx, v0, v1, rfl, _⟩
  rfl
def t_WirePacket_init (K : PySem.W.Frag) (A : Ads) : TS :=
 tSeq (sFld K (tVar 0) (tVar 1) "octets")
 (sFld K (tVar 0) (tVar 2) "damaged")
theorem pure_WirePacket_init (T : Txt K mg A) (vs : List V) (H : Hp) (Q : VK) (E : XK) (h : sp_WirePacket_init K A vs H Q E) : t_WirePacket_init K A { nx := fun _ H' => Q .non H', rt := Q } (start ["self", "octets", "damaged"] vs) H := by
  obtain ⟨p, dx, v0, v1, rfl, hp, k⟩ := h
  refine s_init 0 rfl rfl hp T.cl_WirePacket T.n_WirePacket_octets (Nat.le_refl _) (by decide) fun l hp => ?_
  refine s_init 1 rfl rfl hp T.cl_WirePacket T.n_WirePacket_damaged l (by decide) fun l hp => ?_
  show Q .non (upd (upd H p _) p _)
  rw [upd_upd, fl_WirePacket_new]
  exact k
def sp_Call_init (K : PySem.W.Frag) (A : Ads) : Sp := fun vs H Q _ => ∃ (p dx : Addr) (v0 v1 v2 : V), vs = [.ref p, v0, v1, v2] ∧ H p = some (.ins A.c_Call dx []) ∧ Q .non (upd H p (.ins A.c_Call dx (fl_Call v0 v1 v2)))
theorem len_Call_init : ∀ vs H Q E, sp_Call_init K A vs H Q E → vs.length = (["self", "operation", "numbers", "row"] : List Str).length := by
  rintro vs H Q E ⟨p, dx, v0, v1, v2, rfl, _⟩
  rfl
def t_Call_init (K : PySem.W.Frag) (A : Ads) : TS :=
 tSeq (sFld K (tVar 0) (tVar 1) "operation")
 (tSeq (sFld K (tVar 0) (tVar 2) "numbers")
 (sFld K (tVar 0) (tVar 3) "row"))
theorem pure_Call_init (T : Txt K mg A) (vs : List V) (H : Hp) (Q : VK) (E : XK) (h : sp_Call_init K A vs H Q E) : t_Call_init K A { nx := fun _ H' => Q .non H', rt := Q } (start ["self", "operation", "numbers", "row"] vs) H := by
  obtain ⟨p, dx, v0, v1, v2, rfl, hp, k⟩ := h
  refine s_init 0 rfl rfl hp T.cl_Call T.n_Call_operation (Nat.le_refl _) (by decide) fun l hp => ?_
  refine s_init 1 rfl rfl hp T.cl_Call T.n_Call_numbers l (by decide) fun l hp => ?_
  refine s_init 2 rfl rfl hp T.cl_Call T.n_Call_row l (by decide) fun l hp => ?_
  show Q .non (upd (upd (upd H p _) p _) p _)
  rw [upd_upd, upd_upd, fl_Call_new]
  exact k
/-- a new object stands, all else is as it was -/
theorem made_ex {H : Hp} {x dx : Addr} {o : HO} (nx : H x = none) (nd : H dx = none) : Ex H (upd (upd (upd H dx (.own x)) x (.ins 0 dx [])) x o) := by
  rw [upd_upd]
  intro b u e
  rw [upd_ne (ne_of_none e nx), upd_ne (ne_of_none e nd)]
  exact e
theorem made_ex' {H : Hp} {x dx C : Addr} {o : HO} (nx : H x = none) (nd : H dx = none) : Ex H (upd (upd (upd H dx (.own x)) x (.ins C dx [])) x o) := by
  rw [upd_upd]
  intro b u e
  rw [upd_ne (ne_of_none e nx), upd_ne (ne_of_none e nd)]
  exact e
/-- a packet object -/
def PktAt (A : Ads) (H : Hp) (q : Addr) (p : Vbxlac.Packet) (pl : Addr) : Prop :=
  (∃ dx, H q = some (.ins A.c_Packet dx (fl_Packet (.int p.kind) (.int p.sender) (.int p.receiver) (.int p.number) (.ref pl)))) ∧ H pl = some (.lst (byV p.payload))
theorem PktAt.ex {H H' : Hp} {q pl : Addr} {p : Vbxlac.Packet} (h : PktAt A H q p pl) (e : Ex H H') : PktAt A H' q p pl := by
  obtain ⟨⟨dx, h1⟩, h2⟩ := h
  exact ⟨⟨dx, e _ _ h1⟩, e _ _ h2⟩

/-! ### the checksum -/
def sp_checksum_of (K : PySem.W.Frag) (A : Ads) : Sp := fun vs H Q _ => ∃ (a : Addr) (bs : List Nat), vs = [.ref a] ∧ SqL K H a (byV bs) ∧ ∀ H2, Ex H H2 → Q (.int ((Vbxlac.checksum bs : Nat) : Int)) H2
theorem len_checksum_of : ∀ vs H Q E, sp_checksum_of K A vs H Q E → vs.length = (["octets"] : List Str).length := by
  rintro vs H Q E ⟨a, bs, rfl, _⟩
  rfl
def t_checksum_of (K : PySem.W.Frag) (A : Ads) : TS :=
 tSeq (tAsg (tC (.int 0)) (gName 1))
 (tSeq (tFor (iList K (tVar 0)) (gName 2)
 (tAsg (tOp rMod (tOp rPlus (tOp rPlus (tOp rMul (tVar 1) (tC (.int (257)))) (tVar 2)) (tC (.int 1))) (tC (.int (1000000007)))) (gName 1)))
 (tRet (tVar 1)))
theorem csFrom_take {bs : List Nat} {i b : Nat} (h : bs[i]? = some b) : csFrom 0 (bs.take (i + 1)) = (csFrom 0 (bs.take i) * 257 + b + 1) % 1000000007 := by
  have e : bs.take (i + 1) = bs.take i ++ [b] := by
    rw [List.take_succ, h] <;> rfl
  rw [e, csFrom_append, csFrom_cons] <;> rfl
theorem pure_checksum_of (T : Txt K mg A) (vs : List V) (H : Hp) (Q : VK) (E : XK) (h : sp_checksum_of K A vs H Q E) : t_checksum_of K A { nx := fun _ H' => Q .non H', rt := Q } (start ["octets", "checksum", "octet"] vs) H := by
  obtain ⟨a, bs, rfl, hs, k⟩ := h
  refine q_asg ev_c fun H1 e1 => ?_
  refine q_forLn (ev_var rfl) (ex_l e1 hs) (fun i σ H' => Ex H H' ∧ ∃ x, σ = [some (.ref a), some (.int ((csFrom 0 (bs.take i) : Nat) : Int)), x]) (fun H2 e2 => ⟨e1.trans e2, none, rfl⟩) (fun i σ H' _ ⟨e, _⟩ => ex_l e hs) ?_ ?_
  · rintro i y σ H' hi ⟨e, x, rfl⟩
    obtain ⟨b, hb, rfl⟩ := byV_at hi
    have lt : csFrom 0 (bs.take i) < 1000000007 := csFrom_lt _ (by decide)
    refine s_asg (v := .int (((csFrom 0 (bs.take i) : Nat) : Int) * 257 + (b : Int) + 1 |> fun z => z % 1000000007)) (ev_op (ev_op (ev_op (ev_op (ev_var rfl) ev_c (rv_I (.inl ⟨by omega, by omega⟩))) (ev_var rfl) rv_I0) ev_c rv_I0) ev_c (rv_I (by decide))) fun H2 e2 => ⟨e.trans e2, some (.int (b : Int)), ?_⟩
    rw [csFrom_take hb]
    show [some (V.ref a), some (V.int ((((csFrom 0 (bs.take i) : Nat) : Int) * 257 + (b : Int) + 1) % 1000000007)), some (V.int (b : Int))] = _
    have e3 : (((csFrom 0 (bs.take i) : Nat) : Int) * 257 + (b : Int) + 1) % 1000000007 = (((csFrom 0 (bs.take i) * 257 + b + 1) % 1000000007 : Nat) : Int) := by omega
    rw [e3]
  · rintro σ H' ⟨e, x, rfl⟩
    rw [byV_len, List.take_length, ← checksum_eq]
    exact s_ret (ev_var rfl) fun H2 e2 => k H2 (e.trans e2)
theorem sv_checksum_of {a : Addr} {bs : List Nat} {H : Hp} (hs : SqL K H a (byV bs)) : SpV (sp_checksum_of K A) [.ref a] H (.int ((Vbxlac.checksum bs : Nat) : Int)) := fun H1 e Q q E => ⟨a, bs, rfl, ex_l e hs, q⟩
end Sur
namespace Sur
open PySem PySem.Spec PyProof.Rows L2 Evl
variable {P : Program} {w : World} {K : PySem.W.Frag} {mg : Str → Option Value} {base : Heap} {A : Ads} {W : Addr → Prop}
/-! ## Packets written and read -/
section
variable {σ : L2.St} {H H' : Hp} {ta tb te tx : TE} {t u : TT} {x y z v : V} {r : R2} {D : Ends} {tz : TS}
theorem vint_eq {a b : Int} (h : decide (V.int a = V.int b) = true) : a = b := V.int.inj (of_decide_eq_true h)
theorem vint_ne {a b : Int} (h : decide (V.int a = V.int b) = false) : a ≠ b := fun e => of_decide_eq_false h (congrArg V.int e)
/-- an expression that makes an object -/
def EvI (te : TE) (σ : L2.St) (H : Hp) (C : Addr) (fs : List (Str × V)) : Prop := ∀ H1, Ex H H1 → ∀ Q : VK, (∀ x dx H2, H1 x = none → Ex H1 H2 → H2 x = some (.ins C dx fs) → Q (.ref x) H2) → te σ H1 Q
theorem ei_make {C : Addr} {sp : Sp} {ta : TA} {vs : List V} {fs : List (Str × V)} (h : EvA ta σ H vs)
    (hs : ∀ (p dx : Addr) (H : Hp) (Q : VK) (E : XK), H p = some (.ins C dx []) → Q .non (upd H p (.ins C dx fs)) → sp (.ref p :: vs) H Q E) : EvI (tMake C sp [] E0 ta) σ H C fs := fun H1 e Q q =>
  h H1 e _ fun H2 e2 x dx nx nd ne => by
    rw [List.append_nil]
    refine hs x dx _ _ _ upd_same ⟨rfl, q x dx _ (fresh_back e2 nx) (e2.trans (made_ex' nx nd)) upd_same⟩
theorem q_asgI {C : Addr} {fs : List (Str × V)} {i : Nat} (h : EvI te σ H C fs) (k : ∀ x dx H1, H x = none → Ex H H1 → H1 x = some (.ins C dx fs) → tz D (σ.set i (some (.ref x))) H1) : tSeq (tAsg te (gName i)) tz D σ H := h H (Ex.refl H) _ k
theorem dp_bytes {a : Addr} : ∀ bs : List Nat, DpAll K H (byV bs) (bs.map fun (b : Nat) => PyData.int (b : Int))
  | [] => .nil
  | b :: r => .cons (.int _) (dp_bytes (a := a) r)
theorem eqv_bytes : ∀ (xs ys : List Nat), PyData.eqvAll (xs.map fun (b : Nat) => PyData.int (b : Int)) (ys.map fun (b : Nat) => PyData.int (b : Int)) = decide (xs = ys)
  | [], [] => by simp [PyData.eqvAll]
  | [], y :: ys => by simp [PyData.eqvAll]
  | x :: xs, [] => by simp [PyData.eqvAll]
  | x :: xs, y :: ys => by
    simp only [List.map_cons, PyData.eqvAll, PyData.eqv, eqv_bytes xs ys]
    by_cases h : x = y
    · subst h; simp
    · have : ((x : Int) == (y : Int)) = false := beq_eq_false_iff_ne.mpr (by omega)
      rw [this]
      simp [h]
theorem depth_bytes : ∀ xs : List Nat, PyData.depthAll (xs.map fun (b : Nat) => PyData.int (b : Int)) = 0
  | [] => by simp [PyData.depthAll]
  | x :: xs => by simp [PyData.depthAll, PyData.depth, depth_bytes xs]
theorem lay_bytes : ∀ xs : List Nat, PyData.canLayAll0 (xs.map fun (b : Nat) => PyData.int (b : Int)) = true
  | [] => by simp [PyData.canLayAll0]
  | x :: xs => by simp [PyData.canLayAll0, PyData.canLay0, lay_bytes xs]
theorem shaped_bytes (xs : List Nat) : SeqAt.shaped (.list (xs.map fun (b : Nat) => PyData.int (b : Int))) = true := by
  unfold SeqAt.shaped
  simp [PyData.canLay0, PyData.depth, lay_bytes, depth_bytes]
theorem rv_neBytes {p q : Addr} {xs ys : List Nat} (hp : SqL K H p (byV xs)) (hq : SqL K H q (byV ys)) : RV (rNeD K) (.ref p) (.ref q) H (.bl (!decide (xs = ys))) := fun H1 e Q k => by
  refine ⟨_, _, .lst (ex_l e hp) (dp_bytes (a := p) xs), .lst (ex_l e hq) (dp_bytes (a := q) ys), shaped_bytes xs, shaped_bytes ys, ?_⟩
  have e1 : PyData.eqv (.list (xs.map fun (b : Nat) => PyData.int (b : Int))) (.list (ys.map fun (b : Nat) => PyData.int (b : Int))) = decide (xs = ys) := by
    rw [PyData.eqv, eqv_bytes]
  rw [e1]
  exact k H1 (Ex.refl H1)
theorem rv_eqBytes {p q : Addr} {xs ys : List Nat} (hp : SqL K H p (byV xs)) (hq : SqL K H q (byV ys)) : RV (rEqD K) (.ref p) (.ref q) H (.bl (decide (xs = ys))) := fun H1 e Q k => by
  refine ⟨_, _, .lst (ex_l e hp) (dp_bytes (a := p) xs), .lst (ex_l e hq) (dp_bytes (a := q) ys), shaped_bytes xs, shaped_bytes ys, ?_⟩
  have e1 : PyData.eqv (.list (xs.map fun (b : Nat) => PyData.int (b : Int))) (.list (ys.map fun (b : Nat) => PyData.int (b : Int))) = decide (xs = ys) := by
    rw [PyData.eqv, eqv_bytes]
  rw [e1]
  exact k H1 (Ex.refl H1)
end
section
variable {σ : L2.St} {H : Hp} {q pl : Addr} {p : Vbxlac.Packet} {te : TE}
/-- a packet's fields read -/
theorem pk_kind (T : Txt K mg A) (h : PktAt A H q p pl) (he : Ev te σ H (.ref q)) : Ev (tFld K te "kind") σ H (.int p.kind) := by
  obtain ⟨⟨dx, h⟩, _⟩ := h
  exact ev_fld he h T.cl_Packet T.n_Packet_kind fl_Packet_kind
theorem pk_sender (T : Txt K mg A) (h : PktAt A H q p pl) (he : Ev te σ H (.ref q)) : Ev (tFld K te "sender") σ H (.int p.sender) := by
  obtain ⟨⟨dx, h⟩, _⟩ := h
  exact ev_fld he h T.cl_Packet T.n_Packet_sender fl_Packet_sender
theorem pk_receiver (T : Txt K mg A) (h : PktAt A H q p pl) (he : Ev te σ H (.ref q)) : Ev (tFld K te "receiver") σ H (.int p.receiver) := by
  obtain ⟨⟨dx, h⟩, _⟩ := h
  exact ev_fld he h T.cl_Packet T.n_Packet_receiver fl_Packet_receiver
theorem pk_number (T : Txt K mg A) (h : PktAt A H q p pl) (he : Ev te σ H (.ref q)) : Ev (tFld K te "number") σ H (.int p.number) := by
  obtain ⟨⟨dx, h⟩, _⟩ := h
  exact ev_fld he h T.cl_Packet T.n_Packet_number fl_Packet_number
theorem pk_payload (T : Txt K mg A) (h : PktAt A H q p pl) (he : Ev te σ H (.ref q)) : Ev (tFld K te "payload") σ H (.ref pl) := by
  obtain ⟨⟨dx, h⟩, _⟩ := h
  exact ev_fld he h T.cl_Packet T.n_Packet_payload fl_Packet_payload
end
/-! ### octets_of -/
def sp_octets_of (K : PySem.W.Frag) (A : Ads) : Sp := fun vs H Q _ => ∃ (q pl : Addr) (p : Vbxlac.Packet), vs = [.ref q] ∧ PktAt A H q p pl ∧ p.payload.length ≤ 1000 ∧
  ∀ o H2, H o = none → Ex H H2 → H2 o = some (.lst (byV (Vbxlac.writePacket p))) → Q (.ref o) H2
theorem len_octets_of : ∀ vs H Q E, sp_octets_of K A vs H Q E → vs.length = (["packet"] : List Str).length := by
  rintro vs H Q E ⟨q, pl, p, rfl, _⟩
  rfl
def t_octets_of (K : PySem.W.Frag) (A : Ads) : TS :=
 tSeq (tAsg (tLst (tCons (tFld K (tVar 0) "kind") (tCons (tFld K (tVar 0) "sender") (tCons (tFld K (tVar 0) "receiver") (tCons (tFld K (tVar 0) "number") (tNil)))))) (gName 1))
 (tSeq (tIfS (tTest (tOp (rEq) (tFld K (tVar 0) "kind") (tC (.int (1)))))
 (tSeq (tDrop (tBM K "list" rAppend (tVar 1) (tCons (tCB (rLenS K) (tCons (tFld K (tVar 0) "payload") (tNil))) (tNil))))
 (tDrop (tBM K "list" rExtend (tVar 1) (tCons (tFld K (tVar 0) "payload") (tNil)))))
 (tNext))
 (tSeq (tAsg (tCall (sp_checksum_of K A) [] E0 (tCons (tVar 1) (tNil))) (gName 2))
 (tSeq (tDrop (tBM K "list" rAppend (tVar 1) (tCons (tOp rDiv (tVar 2) (tC (.int 16777216))) (tNil))))
 (tSeq (tDrop (tBM K "list" rAppend (tVar 1) (tCons (tOp rMod (tOp rDiv (tVar 2) (tC (.int 65536))) (tC (.int 256))) (tNil))))
 (tSeq (tDrop (tBM K "list" rAppend (tVar 1) (tCons (tOp rMod (tOp rDiv (tVar 2) (tC (.int 256))) (tC (.int 256))) (tNil))))
 (tSeq (tDrop (tBM K "list" rAppend (tVar 1) (tCons (tOp rMod (tVar 2) (tC (.int 256))) (tNil))))
 (tRet (tVar 1))))))))
theorem pure_octets_of (T : Txt K mg A) (vs : List V) (H : Hp) (Q : VK) (E : XK) (h : sp_octets_of K A vs H Q E) : t_octets_of K A { nx := fun _ H' => Q .non H', rt := Q } (start ["packet", "octets", "checksum"] vs) H := by
  obtain ⟨q, pl, p, rfl, hp, hz, k⟩ := h
  refine q_asgL (xs := byV [p.kind, p.sender, p.receiver, p.number]) (el_lst (ea_cons (pk_kind T hp (ev_var rfl)) (ea_cons (pk_sender T hp (ev_var rfl)) (ea_cons (pk_receiver T hp (ev_var rfl)) (ea_cons (pk_number T hp (ev_var rfl)) ea_nil)))) (by show 4 ≤ 100000; decide)) fun o H1 o0 e1 h1 => ?_
  have rest : ∀ H2, Ex H H2 → H2 o = some (.lst (byV (Vbxlac.packetBody p))) → (Vbxlac.packetBody p).length ≤ 2000 →
      tSeq (tAsg (tCall (sp_checksum_of K A) [] E0 (tCons (tVar 1) (tNil))) (gName 2))
       (tSeq (tDrop (tBM K "list" rAppend (tVar 1) (tCons (tOp rDiv (tVar 2) (tC (.int 16777216))) (tNil))))
       (tSeq (tDrop (tBM K "list" rAppend (tVar 1) (tCons (tOp rMod (tOp rDiv (tVar 2) (tC (.int 65536))) (tC (.int 256))) (tNil))))
       (tSeq (tDrop (tBM K "list" rAppend (tVar 1) (tCons (tOp rMod (tOp rDiv (tVar 2) (tC (.int 256))) (tC (.int 256))) (tNil))))
       (tSeq (tDrop (tBM K "list" rAppend (tVar 1) (tCons (tOp rMod (tVar 2) (tC (.int 256))) (tNil))))
       (tRet (tVar 1)))))) { nx := fun _ H' => Q .non H', rt := Q } [some (.ref q), some (.ref o), none] H2 := by
    intro H2 e2 h2 hl
    refine q_asg (ev_call (ea_cons (ev_var rfl) ea_nil) (sv_checksum_of (sq_of h2))) fun H3 e3 => ?_
    refine q_app (v := .int (((Vbxlac.checksum (Vbxlac.packetBody p) / 16777216 : Nat)) : Int)) (e3 _ _ h2) (ev_var rfl) (ev_is (ev_op (ev_var rfl) ev_c (rv_I ⟨by decide, by decide⟩)) rfl) (by rw [byV_len]; omega) fun H4 e4 => ?_
    refine q_app (v := .int (((Vbxlac.checksum (Vbxlac.packetBody p) / 65536 % 256 : Nat)) : Int)) upd_same (ev_var rfl) (ev_is (ev_op (ev_op (ev_var rfl) ev_c (rv_I ⟨by decide, by decide⟩)) ev_c (rv_I (by decide))) rfl) (by simp only [List.length_append, byV_len, List.length_singleton]; omega) fun H5 e5 => ?_
    refine q_app (v := .int (((Vbxlac.checksum (Vbxlac.packetBody p) / 256 % 256 : Nat)) : Int)) upd_same (ev_var rfl) (ev_is (ev_op (ev_op (ev_var rfl) ev_c (rv_I ⟨by decide, by decide⟩)) ev_c (rv_I (by decide))) rfl) (by simp only [List.length_append, byV_len, List.length_singleton]; omega) fun H6 e6 => ?_
    refine q_app (v := .int (((Vbxlac.checksum (Vbxlac.packetBody p) % 256 : Nat)) : Int)) upd_same (ev_var rfl) (ev_is (ev_op (ev_var rfl) ev_c (rv_I (by decide))) rfl) (by simp only [List.length_append, byV_len, List.length_singleton]; omega) fun H7 e7 => ?_
    refine s_ret (ev_var rfl) fun H8 e8 => k o H8 o0 ?_ ?_
    · exact (Ex.mut ((Ex.mut ((Ex.mut ((Ex.mut ((e2.trans e3).trans e4) o0).trans e5) o0).trans e6) o0).trans e7) o0).trans e8
    · rw [e8 _ _ upd_same]
      unfold Vbxlac.writePacket Vbxlac.fourBytes
      rw [byV_app]
      simp [byV]
  refine q_if (et_test (ev_op (pk_kind T (hp.ex e1) (ev_var rfl)) ev_c (rv_eq rfl))) (fun hb H2 e2 => ?_) (fun hb H2 e2 => ?_)
  · have hk : p.kind = 1 := by have := vint_eq hb; omega
    refine q_app (e2 _ _ h1) (ev_var rfl) (ev_len (pk_payload T (hp.ex (e1.trans e2)) (ev_var rfl)) (sq_of ((hp.ex (e1.trans e2)).2))) (by show 4 < 100000; decide) fun H3 e3 => ?_
    have e13 : Ex H (upd H3 o (.lst (byV [p.kind, p.sender, p.receiver, p.number] ++ [V.int ((byV p.payload).length : Int)]))) := Ex.mut ((e1.trans e2).trans e3) o0
    refine s_ext upd_same (ev_var rfl) (pk_payload T (hp.ex e13) (ev_var rfl)) (hp.ex e13).2 (by simp only [List.length_append, byV_len, List.length_singleton]; exact Nat.le_trans (show _ ≤ 2000 by simp; omega) (by decide)) fun H4 e4 => ?_
    refine rest _ (Ex.mut (e13.trans e4) o0) ?_ ?_
    · rw [upd_same, packetBody_one hk, hk]
      simp [byV]
    · rw [packetBody_one hk]
      simp
      omega
  · have hk : p.kind ≠ 1 := by have := vint_ne hb; omega
    refine rest _ (e1.trans e2) ?_ ?_
    · rw [e2 _ _ h1, packetBody_ne hk]
    · rw [packetBody_ne hk]
      simp
theorem sl_octets_of {q pl : Addr} {p : Vbxlac.Packet} {H : Hp} (h : PktAt A H q p pl) (hz : p.payload.length ≤ 1000) : SpL (sp_octets_of K A) [.ref q] H (byV (Vbxlac.writePacket p)) := fun H1 e Q k E => ⟨q, pl, p, rfl, h.ex e, hz, k⟩
/-! ### has_valid_fields -/
def validF (p : Vbxlac.Packet) : Bool := Vbxlac.isSiteNumber p.sender && Vbxlac.isSiteNumber p.receiver && (p.sender != p.receiver) && decide (p.payload.length ≤ 16) &&
  (if p.kind = 1 then decide (1 ≤ p.number) && decide (p.number ≤ 60) else decide (p.kind = 2) && decide (p.number ≤ 60))
def sp_has_valid_fields (K : PySem.W.Frag) (A : Ads) : Sp := fun vs H Q _ => ∃ (q pl : Addr) (p : Vbxlac.Packet), vs = [.ref q] ∧ PktAt A H q p pl ∧ ∀ H2, Ex H H2 → Q (.bl (validF p)) H2
theorem len_has_valid_fields : ∀ vs H Q E, sp_has_valid_fields K A vs H Q E → vs.length = (["packet"] : List Str).length := by
  rintro vs H Q E ⟨q, pl, p, rfl, _⟩
  rfl
def t_has_valid_fields (K : PySem.W.Frag) (A : Ads) : TS :=
 tSeq (tIfS (tOr (tNot (tB (tCall (sp_is_site_number K A) [] E0 (tCons (tFld K (tVar 0) "sender") (tNil))))) (tNot (tB (tCall (sp_is_site_number K A) [] E0 (tCons (tFld K (tVar 0) "receiver") (tNil))))))
 (tRet (tC (.bl false)))
 (tNext))
 (tSeq (tIfS (tOr (tTest (tOp (rEq) (tFld K (tVar 0) "sender") (tFld K (tVar 0) "receiver"))) (tTest (tOp (rGt) (tCB (rLenS K) (tCons (tFld K (tVar 0) "payload") (tNil))) (tC (.int (16))))))
 (tRet (tC (.bl false)))
 (tNext))
 (tSeq (tIfS (tTest (tOp (rEq) (tFld K (tVar 0) "kind") (tC (.int (1)))))
 (tRet (tCall (sp_is_message_number K A) [] E0 (tCons (tFld K (tVar 0) "number") (tNil))))
 (tNext))
 (tRet (tAndV (tOp (rEq) (tFld K (tVar 0) "kind") (tC (.int (2)))) (tCall (sp_is_message_count K A) [] E0 (tCons (tFld K (tVar 0) "number") (tNil)))))))
theorem siteN (n : Nat) : (decide (1 ≤ (n : Int)) && decide ((n : Int) ≤ 4)) = Vbxlac.isSiteNumber n := by
  unfold Vbxlac.isSiteNumber Vbxlac.maxSites
  congr 1 <;> exact decide_eq_decide.mpr (by omega)
theorem pure_has_valid_fields (T : Txt K mg A) (vs : List V) (H : Hp) (Q : VK) (E : XK) (h : sp_has_valid_fields K A vs H Q E) : t_has_valid_fields K A { nx := fun _ H' => Q .non H', rt := Q } (start ["packet"] vs) H := by
  obtain ⟨q, pl, p, rfl, hp, k⟩ := h
  refine q_when (b := !Vbxlac.isSiteNumber p.sender || !Vbxlac.isSiteNumber p.receiver) ?_ (fun hb H1 e1 => ?_) (fun hb H1 e1 => ?_)
  · rw [← siteN, ← siteN]
    exact et_or (et_not (et_B (ev_call (ea_cons (pk_sender T hp (ev_var rfl)) ea_nil) sv_is_site_number))) fun _ => et_not (et_B (ev_call (ea_cons (pk_receiver T hp (ev_var rfl)) ea_nil) sv_is_site_number))
  · refine s_ret ev_c fun H2 e2 => ?_
    have : validF p = false := by
      unfold validF
      cases h1 : Vbxlac.isSiteNumber p.sender <;> cases h2 : Vbxlac.isSiteNumber p.receiver <;> simp_all
    rw [← this]
    exact k H2 (e1.trans e2)
  · have hs : Vbxlac.isSiteNumber p.sender = true ∧ Vbxlac.isSiteNumber p.receiver = true := by simpa using hb
    have hp1 := hp.ex e1
    refine q_when (b := decide (V.int (p.sender : Int) = V.int (p.receiver : Int)) || decide ((16 : Int) < ((byV p.payload).length : Int))) ?_ (fun hb H2 e2 => ?_) (fun hb H2 e2 => ?_)
    · exact et_or (et_test (ev_op (pk_sender T hp1 (ev_var rfl)) (pk_receiver T hp1 (ev_var rfl)) (rv_eq rfl))) fun _ => et_test (ev_op (ev_len (pk_payload T hp1 (ev_var rfl)) (sq_of hp1.2)) ev_c rv_I0)
    · refine s_ret ev_c fun H3 e3 => ?_
      have : validF p = false := by
        unfold validF
        rw [byV_len] at hb
        have hb' : p.sender = p.receiver ∨ 16 < p.payload.length := by
          simp at hb
          omega
        rcases hb' with h | h
        · simp [h]
        · have : decide (p.payload.length ≤ 16) = false := by simpa using h
          simp [this]
      rw [← this]
      exact k H3 ((e1.trans e2).trans e3)
    · have hb' : p.sender ≠ p.receiver ∧ p.payload.length ≤ 16 := by
        rw [byV_len] at hb
        simp at hb
        omega
      have v : validF p = (if p.kind = 1 then decide (1 ≤ p.number) && decide (p.number ≤ 60) else decide (p.kind = 2) && decide (p.number ≤ 60)) := by
        unfold validF
        rw [hs.1, hs.2]
        have : decide (p.payload.length ≤ 16) = true := by simpa using hb'.2
        simp [hb'.1, this]
      have hp2 := hp.ex (e1.trans e2)
      refine q_when (et_test (ev_op (pk_kind T hp2 (ev_var rfl)) ev_c (rv_eq rfl))) (fun hb H3 e3 => ?_) (fun hb H3 e3 => ?_)
      · have hk : p.kind = 1 := by have := vint_eq hb; omega
        refine s_ret (ev_call (ea_cons (pk_number T (hp2.ex e3) (ev_var rfl)) ea_nil) sv_is_message_number) fun H4 e4 => ?_
        have e : (decide ((1 : Int) ≤ (p.number : Int)) && decide ((p.number : Int) ≤ 60)) = validF p := by
          rw [v, if_pos hk]
          congr 1 <;> exact decide_eq_decide.mpr (by omega)
        rw [e]
        exact k H4 (((e1.trans e2).trans e3).trans e4)
      · have hk : p.kind ≠ 1 := by have := vint_ne hb; omega
        refine s_ret (ev_andV (ev_op (pk_kind T (hp2.ex e3) (ev_var rfl)) ev_c (rv_eq rfl)) fun _ => ev_call (ea_cons (pk_number T (hp2.ex e3) (ev_var rfl)) ea_nil) sv_is_message_count) fun H4 e4 => ?_
        have e : (decide (V.int (p.kind : Int) = V.int 2) && (decide ((0 : Int) ≤ (p.number : Int)) && decide ((p.number : Int) ≤ 60))) = validF p := by
          rw [v, if_neg hk]
          congr 1
          · exact decide_eq_decide.mpr (by simp only [V.int.injEq]; omega)
          · have : decide ((0 : Int) ≤ (p.number : Int)) = true := decide_eq_true (by omega)
            rw [this, Bool.true_and]
            exact decide_eq_decide.mpr (by omega)
        rw [e]
        exact k H4 (((e1.trans e2).trans e3).trans e4)
theorem sv_has_valid_fields {q pl : Addr} {p : Vbxlac.Packet} {H : Hp} (h : PktAt A H q p pl) : SpV (sp_has_valid_fields K A) [.ref q] H (.bl (validF p)) := fun H1 e Q k E => ⟨q, pl, p, rfl, h.ex e, k⟩
/-! ### packet_of -/
/-- the payload that packet_of cuts out, the packet that it makes -/
def cutPay (bs : List Nat) : List Nat := if bs[0]? = some 1 then (bs.take (bs.length - 4)).drop 5 else []
def madeOf (bs : List Nat) : Vbxlac.Packet := ⟨bs.getD 0 0, bs.getD 1 0, bs.getD 2 0, bs.getD 3 0, cutPay bs⟩
theorem made_of_read {bs : List Nat} {p : Vbxlac.Packet} (h : Vbxlac.readPacket bs = some p) : 8 ≤ bs.length ∧ madeOf bs = p ∧ validF p = true := by
  obtain ⟨hp, e⟩ := readPacket_some h
  obtain ⟨⟨a1, a2⟩, ⟨a3, a4⟩, a5, a6, a7⟩ := isPacket_iff.mp hp
  have v : validF p = true := by
    unfold validF Vbxlac.isSiteNumber Vbxlac.maxSites
    rcases a7 with ⟨b1, b2, b3, _⟩ | ⟨b1, b2⟩
    · simp [b1, a1, a2, a3, a4, a5, a6, b2, b3]
    · simp [b1, b2, a1, a2, a3, a4, a5, a6]
  refine ⟨?_, ?_, v⟩
  · rw [← e, writePacket_length]
    split <;> omega
  · rcases p with ⟨k, s, r, n, pay⟩
    rcases a7 with ⟨b1, b2, b3, _⟩ | ⟨b1, b2⟩
    · simp only at b1
      subst b1
      have e' : bs = 1 :: s :: r :: n :: pay.length :: (pay ++ Vbxlac.fourBytes (Vbxlac.checksum (Vbxlac.packetBody ⟨1, s, r, n, pay⟩))) := by
        rw [← e]
        unfold Vbxlac.writePacket
        conv => lhs; arg 1; rw [packetBody_one rfl]
        rfl
      generalize Vbxlac.fourBytes (Vbxlac.checksum (Vbxlac.packetBody ⟨1, s, r, n, pay⟩)) = four at e'
      have lf : bs.length = 5 + pay.length + 4 := by
        rw [← e, writePacket_length, if_pos rfl]
        simp only
        omega
      unfold madeOf cutPay
      rw [lf]
      subst e'
      simp only [List.getD_cons_zero, List.getD_cons_succ, List.getElem?_cons_zero, if_true]
      congr 1
      rw [show 5 + pay.length + 4 - 4 = pay.length + 5 by omega]
      show List.take pay.length (pay ++ four) = pay
      simp
    · simp only at b1 b2
      subst b1 b2
      have e' : bs = 2 :: s :: r :: n :: Vbxlac.fourBytes (Vbxlac.checksum (Vbxlac.packetBody ⟨2, s, r, n, []⟩)) := by
        rw [← e]
        unfold Vbxlac.writePacket
        conv => lhs; arg 1; rw [packetBody_ne (by simp)]
        rfl
      unfold madeOf cutPay
      rw [e']
      simp
theorem read_of_made {bs : List Nat} (h8 : 8 ≤ bs.length) (hb : ∀ x ∈ bs, x < 256) (hv : validF (madeOf bs) = true) (hw : Vbxlac.writePacket (madeOf bs) = bs) : Vbxlac.readPacket bs = some (madeOf bs) := by
  refine readPacket_iff.mpr ⟨?_, hw⟩
  unfold validF Vbxlac.isSiteNumber Vbxlac.maxSites at hv
  simp only [Bool.and_eq_true, decide_eq_true_eq, bne_iff_ne, ne_eq] at hv
  obtain ⟨⟨⟨⟨⟨a1, a2⟩, a3, a4⟩, a5⟩, a6⟩, a7⟩ := hv
  refine isPacket_iff.mpr ⟨⟨a1, a2⟩, ⟨a3, a4⟩, a5, ?_⟩
  by_cases hk : (madeOf bs).kind = 1
  · rw [if_pos hk] at a7
    simp only [Bool.and_eq_true, decide_eq_true_eq] at a7
    refine ⟨a7.2, .inl ⟨hk, a7.1, a6, fun b hm => hb b ?_⟩⟩
    have hm' : b ∈ cutPay bs := hm
    unfold cutPay at hm'
    split at hm'
    · exact List.mem_of_mem_take (List.mem_of_mem_drop hm')
    · cases hm'
  · rw [if_neg hk] at a7
    simp only [Bool.and_eq_true, decide_eq_true_eq] at a7
    refine ⟨a7.2, .inr ⟨a7.1, ?_⟩⟩
    show cutPay bs = []
    unfold cutPay
    rw [if_neg]
    intro z
    apply hk
    show bs.getD 0 0 = 1
    rw [List.getD_eq_getElem?_getD, z] <;> rfl
/-- what packet_of hands back -/
def RetP (A : Ads) (bs : List Nat) (H : Hp) (Q : VK) : Prop :=
  (Vbxlac.readPacket bs = none → ∀ H2, Ex H H2 → Q .non H2) ∧ (∀ p, Vbxlac.readPacket bs = some p → ∀ q pl H2, H q = none → H pl = none → Ex H H2 → PktAt A H2 q p pl → Q (.ref q) H2)
def sp_packet_of (K : PySem.W.Frag) (A : Ads) : Sp := fun vs H Q _ => ∃ (a : Addr) (bs : List Nat), vs = [.ref a] ∧ SqL K H a (byV bs) ∧ (∀ x ∈ bs, x < 256) ∧ bs.length ≤ 1000 ∧ RetP A bs H Q
theorem len_packet_of : ∀ vs H Q E, sp_packet_of K A vs H Q E → vs.length = (["octets"] : List Str).length := by
  rintro vs H Q E ⟨a, bs, rfl, _⟩
  rfl
def t_packet_of (K : PySem.W.Frag) (A : Ads) : TS :=
 tSeq (tIfS (tTest (tOp (rLt) (tCB (rLenS K) (tCons (tVar 0) (tNil))) (tC (.int (8)))))
 (tRet (tC .non))
 (tNext))
 (tSeq (tAsg (tLst (tNil)) (gName 1))
 (tSeq (tIfS (tTest (tOp (rEq) (tOp (rIxL K) (tVar 0) (tC (.int 0))) (tC (.int (1)))))
 (tAsg (tSl (rSlL K) (tVar 0) (tPart (tC (.int (5)))) (tPart (tOp rMinus (tCB (rLenS K) (tCons (tVar 0) (tNil))) (tC (.int (4)))))) (gName 1))
 (tNext))
 (tSeq (tAsg (tMake A.c_Packet (sp_Packet_init K A) [] E0 (tCons (tOp (rIxL K) (tVar 0) (tC (.int 0))) (tCons (tOp (rIxL K) (tVar 0) (tC (.int 1))) (tCons (tOp (rIxL K) (tVar 0) (tC (.int 2))) (tCons (tOp (rIxL K) (tVar 0) (tC (.int 3))) (tCons (tVar 1) (tNil))))))) (gName 2))
 (tSeq (tIfS (tOr (tNot (tB (tCall (sp_has_valid_fields K A) [] E0 (tCons (tVar 2) (tNil))))) (tTest (tOp (rNeD K) (tCall (sp_octets_of K A) [] E0 (tCons (tVar 2) (tNil))) (tVar 0))))
 (tRet (tC .non))
 (tNext))
 (tRet (tVar 2))))))
theorem getD_at {bs : List Nat} {i : Nat} (h : i < bs.length) : bs[i]? = some (bs.getD i 0) := by
  rw [List.getD_eq_getElem?_getD, List.getElem?_eq_getElem h] <;> rfl
theorem cut_byV {bs : List Nat} (h8 : 8 ≤ bs.length) : cutV (byV bs) (some 5) (some ((bs.length : Int) - 4)) = byV ((bs.take (bs.length - 4)).drop 5) := by
  have e : ((bs.length : Int) - 4) = ((bs.length - 4 : Nat) : Int) := by omega
  unfold cutV
  rw [e, show (5 : Int) = ((5 : Nat) : Int) from rfl, HT.sIx_nat, HT.sIx_nat, byV_len]
  unfold byV
  rw [List.map_drop, List.map_take, List.drop_take]
  congr 2 <;> omega
theorem pure_packet_of (T : Txt K mg A) (vs : List V) (H : Hp) (Q : VK) (E : XK) (h : sp_packet_of K A vs H Q E) : t_packet_of K A { nx := fun _ H' => Q .non H', rt := Q } (start ["octets", "payload", "packet"] vs) H := by
  obtain ⟨a, bs, rfl, hs, hb, hz, k1, k2⟩ := h
  refine q_when (et_test (ev_op (ev_len (ev_var rfl) hs) ev_c rv_I0)) (fun hc H1 e1 => ?_) (fun hc H1 e1 => ?_)
  · refine s_ret ev_c fun H2 e2 => k1 ?_ H2 (e1.trans e2)
    cases e : Vbxlac.readPacket bs with
    | none => rfl
    | some p =>
      have := (made_of_read e).1
      rw [byV_len] at hc
      simp at hc
      omega
  · have h8 : 8 ≤ bs.length := by
      rw [byV_len] at hc
      simp at hc
      omega
    refine q_asgL (el_lst ea_nil (by decide)) fun p1 H2 n1 e2 h2 => ?_
    have rest : ∀ (pl : Addr) (x2 : Option V) (H3 : Hp), H pl = none → Ex H H3 → H3 pl = some (.lst (byV (cutPay bs))) →
        tSeq (tAsg (tMake A.c_Packet (sp_Packet_init K A) [] E0 (tCons (tOp (rIxL K) (tVar 0) (tC (.int 0))) (tCons (tOp (rIxL K) (tVar 0) (tC (.int 1))) (tCons (tOp (rIxL K) (tVar 0) (tC (.int 2))) (tCons (tOp (rIxL K) (tVar 0) (tC (.int 3))) (tCons (tVar 1) (tNil))))))) (gName 2))
         (tSeq (tIfS (tOr (tNot (tB (tCall (sp_has_valid_fields K A) [] E0 (tCons (tVar 2) (tNil))))) (tTest (tOp (rNeD K) (tCall (sp_octets_of K A) [] E0 (tCons (tVar 2) (tNil))) (tVar 0))))
         (tRet (tC .non))
         (tNext))
         (tRet (tVar 2))) { nx := fun _ H' => Q .non H', rt := Q } [some (.ref a), some (.ref pl), x2] H3 := by
      intro pl x2 H3 npl e3 h3
      have ix : ∀ j : Nat, j < bs.length → Ev (tOp (rIxL K) (tVar 0) (tC (.int (j : Int)))) [some (.ref a), some (.ref pl), x2] H3 (.int ((bs.getD j 0 : Nat) : Int)) := fun j hj => ev_ixL (ev_var rfl) ev_c (ex_l e3 hs) (at_byV (getD_at hj))
      refine q_asgI (fs := fl_Packet (.int (madeOf bs).kind) (.int (madeOf bs).sender) (.int (madeOf bs).receiver) (.int (madeOf bs).number) (.ref pl)) (ei_make (ea_cons (ix 0 (by omega)) (ea_cons (ix 1 (by omega)) (ea_cons (ix 2 (by omega)) (ea_cons (ix 3 (by omega)) (ea_cons (ev_var rfl) ea_nil)))))
        (fun p dx H Q E hp hq => ⟨p, dx, _, _, _, _, _, rfl, hp, hq⟩)) fun q dx H4 nq e4 h4 => ?_
      have hp : PktAt A H4 q (madeOf bs) pl := ⟨⟨dx, h4⟩, e4 _ _ h3⟩
      have hpz : (madeOf bs).payload.length ≤ 1000 := by
        show (cutPay bs).length ≤ 1000
        unfold cutPay
        split
        · simp; omega
        · simp
      refine q_when (b := !validF (madeOf bs) || !decide (Vbxlac.writePacket (madeOf bs) = bs)) ?_ (fun hc H5 e5 => ?_) (fun hc H5 e5 => ?_)
      · refine et_or (et_not (et_B (ev_call (ea_cons (ev_var rfl) ea_nil) (sv_has_valid_fields hp)))) fun _ => et_test ?_
        exact ev_opL1 (el_call (ea_cons (ev_var rfl) ea_nil) (sl_octets_of hp hpz)) (fun H6 e6 => ev_var rfl) (fun o H6 ho e6 => rv_neBytes (sq_of ho) (ex_l ((e3.trans e4).trans e6) hs))
      · refine s_ret ev_c fun H6 e6 => k1 ?_ H6 (((e3.trans e4).trans e5).trans e6)
        cases e : Vbxlac.readPacket bs with
        | none => rfl
        | some p =>
          obtain ⟨_, m, v⟩ := made_of_read e
          obtain ⟨_, wr⟩ := readPacket_some e
          rw [m, v, wr] at hc
          simp at hc
      · have hc' : validF (madeOf bs) = true ∧ Vbxlac.writePacket (madeOf bs) = bs := by simpa using hc
        exact s_ret (ev_var rfl) fun H6 e6 => k2 _ (read_of_made h8 hb hc'.1 hc'.2) q pl H6 (fresh_back e3 nq) npl (((e3.trans e4).trans e5).trans e6) (hp.ex (e5.trans e6))
    have h12 : Ex H H2 := e1.trans e2
    refine q_if (et_test (ev_op (ev_ixL (j := 0) (ev_var rfl) ev_c (ex_l h12 hs) (at_byV (getD_at (by omega)))) ev_c (rv_eq rfl))) (fun hc H3 e3 => ?_) (fun hc H3 e3 => ?_)
    · have hk : bs.getD 0 0 = 1 := by have := vint_eq hc; omega
      have hcut : cutPay bs = (bs.take (bs.length - 4)).drop 5 := by
        unfold cutPay
        rw [if_pos (by rw [getD_at (show 0 < bs.length by omega), hk])]
      refine s_asgL (el_sl (lo := some 5) (hi := some ((bs.length : Int) - 4)) (ev_var rfl) (eo_some ev_c) (eo_some (ev_is (ev_op (ev_len (ev_var rfl) (ex_l (h12.trans e3) hs)) ev_c rv_I0) (by rw [byV_len]))) (ex_l (h12.trans e3) hs)) fun pl H4 n4 e4 h4 => ?_
      rw [cut_byV h8, ← hcut] at h4
      exact rest pl _ H4 (fresh_back (h12.trans e3) n4) ((h12.trans e3).trans e4) h4
    · have hk : bs.getD 0 0 ≠ 1 := by have := vint_ne hc; omega
      have hcut : cutPay bs = [] := by
        unfold cutPay
        rw [if_neg (by rw [getD_at (show 0 < bs.length by omega)]; intro z; exact hk (Option.some.inj z))]
      refine rest p1 _ H3 (fresh_back e1 n1) (h12.trans e3) ?_
      rw [hcut]
      exact e3 _ _ h2
end Sur
namespace Sur
open PySem PySem.Spec PyProof.Rows L2 Evl
variable {P : Program} {w : World} {K : PySem.W.Frag} {mg : Str → Option Value} {base : Heap} {A : Ads} {W : Addr → Prop}
/-! ## How a state lies in the heap: roles, an address for each, what stands there -/
inductive CR where
  | self | sentL | ackL | recL | sent (j : Nat) | recv (j : Nat)
  deriving DecidableEq
def CR.ok (n : Nat) : CR → Prop
  | .sent j => j ≤ n
  | .recv j => j ≤ n
  | _ => True
structure CG where
  ad : CR → Addr
  dx : Addr
  ps : CR → List Addr
/-- the link at a place: place 0 stays as it begins -/
def plc (l : List Vbxlac.Link) (j : Nat) : Vbxlac.Link := if j = 0 then Vbxlac.emptyLink else Vbxlac.linkAt l j
def conC (A : Ads) (n : Nat) (g : CG) (l : List Vbxlac.Link) : CR → HO
  | .self => .ins A.c_SiteCopy g.dx (fl_SiteCopy (.ref (g.ad .sentL)) (.ref (g.ad .ackL)) (.ref (g.ad .recL)))
  | .sentL => .lst ((List.range (n + 1)).map fun j => .ref (g.ad (.sent j)))
  | .ackL => .lst ((List.range (n + 1)).map fun j => .int ((plc l j).acknowledged : Int))
  | .recL => .lst ((List.range (n + 1)).map fun j => .ref (g.ad (.recv j)))
  | .sent j => .lst ((g.ps (.sent j)).map .ref)
  | .recv j => .lst ((g.ps (.recv j)).map .ref)
def msgs (l : List Vbxlac.Link) : CR → List Vbxlac.Bytes
  | .sent j => (plc l j).sent
  | .recv j => (plc l j).received
  | _ => []
/-- the messages' lists -/
def Pays (H : Hp) (as : List Addr) (ms : List Vbxlac.Bytes) : Prop := as.length = ms.length ∧ ∀ (i : Nat) (a : Addr) (m : Vbxlac.Bytes), as[i]? = some a → ms[i]? = some m → H a = some (.lst (byV m))
theorem Pays.nil {H : Hp} : Pays H [] [] := ⟨rfl, fun i a m h _ => by simp at h⟩
theorem Pays.ex {H H' : Hp} {as : List Addr} {ms : List Vbxlac.Bytes} (h : Pays H as ms) (e : ∀ a ∈ as, ∀ o, H a = some o → H' a = some o) : Pays H' as ms :=
  ⟨h.1, fun i a m h1 h2 => e a (List.mem_of_getElem? h1) _ (h.2 i a m h1 h2)⟩
theorem Pays.snoc {H : Hp} {as : List Addr} {ms : List Vbxlac.Bytes} {a : Addr} {m : Vbxlac.Bytes} (h : Pays H as ms) (ha : H a = some (.lst (byV m))) : Pays H (as ++ [a]) (ms ++ [m]) := by
  refine ⟨by simp [h.1], fun i b x h1 h2 => ?_⟩
  by_cases hi : i < as.length
  · rw [List.getElem?_append_left hi] at h1
    rw [List.getElem?_append_left (by rw [← h.1]; exact hi)] at h2
    exact h.2 i b x h1 h2
  · rw [List.getElem?_append_right (by omega)] at h1
    rw [List.getElem?_append_right (by rw [← h.1]; omega), ← h.1] at h2
    have hz : i - as.length = 0 := by
      have := (List.getElem?_eq_some_iff.mp h1).1
      simp at this
      exact this
    rw [hz] at h1 h2
    cases h1
    cases h2
    exact ha
structure CopyAt (A : Ads) (H : Hp) (n : Nat) (g : CG) (l : List Vbxlac.Link) : Prop where
  len : l.length = n
  here : ∀ r, r.ok n → H (g.ad r) = some (conC A n g l r)
  inj : ∀ r r', r.ok n → r'.ok n → g.ad r = g.ad r' → r = r'
  pay : ∀ r, r.ok n → Pays H (g.ps r) (msgs l r)
  out : ∀ r r', r.ok n → r'.ok n → g.ad r ∉ g.ps r'
theorem CopyAt.ex {H H' : Hp} {n : Nat} {g : CG} {l : List Vbxlac.Link} (h : CopyAt A H n g l) (e : Ex H H') : CopyAt A H' n g l :=
  ⟨h.len, fun r hr => e _ _ (h.here r hr), h.inj, fun r hr => (h.pay r hr).ex fun a _ o ho => e a o ho, h.out⟩
inductive Role where
  | net | sitesL | wiresL | site (i : Nat) | cp (i : Nat) (k : Bool) (c : CR) | wire (j : Nat) | oct (j : Nat)
  deriving DecidableEq
def Role.ok (n m : Nat) : Role → Prop
  | .site i => i < n
  | .cp i _ c => i < n ∧ c.ok n
  | .wire j => j < m
  | .oct j => j < m
  | _ => True
structure NG where
  ad : Role → Addr
  dx : Role → Addr
  ps : Nat → Bool → CR → List Addr
def NG.cg (G : NG) (i : Nat) (k : Bool) : CG := ⟨fun c => G.ad (.cp i k c), G.dx (.cp i k .self), G.ps i k⟩
def linksOf (s : Vbxlac.State) (i : Nat) (k : Bool) : List Vbxlac.Link := if k = true then (Vbxlac.siteAt s (i + 1)).durable else (Vbxlac.siteAt s (i + 1)).present
def wireOf (s : Vbxlac.State) (j : Nat) : Vbxlac.WirePacket := (s.wires[j]?).getD ⟨[], false⟩
def con (A : Ads) (G : NG) (s : Vbxlac.State) : Role → HO
  | .net => .ins A.c_Network (G.dx .net) (fl_Network (.ref (G.ad .sitesL)) (.ref (G.ad .wiresL)) (.int (s.duplicated : Int)))
  | .sitesL => .lst ((List.range s.sites.length).map fun i => .ref (G.ad (.site i)))
  | .wiresL => .lst ((List.range s.wires.length).map fun j => .ref (G.ad (.wire j)))
  | .site i => .ins A.c_Site (G.dx (.site i)) (fl_Site (.ref (G.ad (.cp i false .self))) (.ref (G.ad (.cp i true .self))))
  | .cp i k c => conC A s.sites.length (G.cg i k) (linksOf s i k) c
  | .wire j => .ins A.c_WirePacket (G.dx (.wire j)) (fl_WirePacket (.ref (G.ad (.oct j))) (.bl (wireOf s j).damaged))
  | .oct j => .lst (byV (wireOf s j).bytes)
structure NetAt (A : Ads) (H : Hp) (G : NG) (s : Vbxlac.State) : Prop where
  here : ∀ r, r.ok s.sites.length s.wires.length → H (G.ad r) = some (con A G s r)
  inj : ∀ r r', r.ok s.sites.length s.wires.length → r'.ok s.sites.length s.wires.length → G.ad r = G.ad r' → r = r'
  pay : ∀ i k c, i < s.sites.length → c.ok s.sites.length → Pays H (G.ps i k c) (msgs (linksOf s i k) c)
  out : ∀ r i k c, r.ok s.sites.length s.wires.length → i < s.sites.length → c.ok s.sites.length → G.ad r ∉ G.ps i k c
def Out (G : NG) (s : Vbxlac.State) (b : Addr) : Prop := ∀ r, r.ok s.sites.length s.wires.length → G.ad r ≠ b
/-- an address that holds a message -/
def Pz (G : NG) (s : Vbxlac.State) (a : Addr) : Prop := ∃ i k c, i < s.sites.length ∧ c.ok s.sites.length ∧ a ∈ G.ps i k c
/-- from one state in the heap to another: what stood outside stands, outside; W tells of what may hold a message anew -/
def Step (A : Ads) (W : Addr → Prop) (H : Hp) (G : NG) (s : Vbxlac.State) (H' : Hp) (G' : NG) (s' : Vbxlac.State) : Prop :=
  NetAt A H' G' s' ∧ G'.ad .net = G.ad .net ∧ (∀ b o, H b = some o → Out G s b → H' b = some o ∧ Out G' s' b) ∧ (∀ b o, H b = some o → ∃ o', H' b = some o') ∧ ∀ a, Pz G' s' a → Pz G s a ∨ W a
theorem dom_upd {H H2 : Hp} {p : Addr} {x : HO} (e : Ex H H2) : ∀ b o, H b = some o → ∃ o', (upd H2 p x) b = some o' := fun b o hb => by
  by_cases z : b = p
  · subst z; exact ⟨x, upd_same⟩
  · exact ⟨o, by rw [upd_ne z]; exact e _ _ hb⟩
section
variable {H H1 H2 H' : Hp} {G G1 G2 G' : NG} {s s1 s2 s' : Vbxlac.State}
/-- what is new behind a step was new ahead of it -/
theorem Step.fresh (h : Step A W H G s H' G' s') {b : Addr} (hb : H' b = none) : H b = none := by
  cases e : H b with
  | none => rfl
  | some o =>
    obtain ⟨o', ho⟩ := h.2.2.2.1 b o e
    rw [hb] at ho
    cases ho
theorem NetAt.ex (h : NetAt A H G s) (e : Ex H H') : NetAt A H' G s :=
  ⟨fun r hr => e _ _ (h.here r hr), h.inj, fun i k c hi hc => (h.pay i k c hi hc).ex fun a _ o ho => e a o ho, h.out⟩
theorem Step.ofEx (h : NetAt A H G s) (e : Ex H H') : Step A W H G s H' G s := ⟨h.ex e, rfl, fun b o hb ho => ⟨e b o hb, ho⟩, fun b o hb => ⟨o, e b o hb⟩, fun a h => .inl h⟩
theorem Step.refl (h : NetAt A H G s) : Step A W H G s H G s := .ofEx h (Ex.refl H)
theorem Step.trans (a : Step A W H G s H1 G1 s1) (b : Step A W H1 G1 s1 H2 G2 s2) : Step A W H G s H2 G2 s2 :=
  ⟨b.1, b.2.1.trans a.2.1, fun c o hc ho => let ⟨h1, o1⟩ := a.2.2.1 c o hc ho; b.2.2.1 c o h1 o1, fun c o hc => let ⟨o1, h1⟩ := a.2.2.2.1 c o hc; b.2.2.2.1 c o1 h1, fun c h => (b.2.2.2.2 c h).elim (fun h1 => a.2.2.2.2 c h1) .inr⟩
theorem Step.left (e : Ex H H1) (b : Step A W H1 G s H2 G2 s2) : Step A W H G s H2 G2 s2 := ⟨b.1, b.2.1, fun c o hc ho => b.2.2.1 c o (e c o hc) ho, fun c o hc => b.2.2.2.1 c o (e c o hc), b.2.2.2.2⟩
theorem Step.right (a : Step A W H G s H1 G1 s1) (e : Ex H1 H2) : Step A W H G s H2 G1 s1 := ⟨a.1.ex e, a.2.1, fun c o hc ho => let ⟨h1, o1⟩ := a.2.2.1 c o hc ho; ⟨e c o h1, o1⟩, fun c o hc => let ⟨o1, h1⟩ := a.2.2.2.1 c o hc; ⟨o1, e c o1 h1⟩, a.2.2.2.2⟩
theorem NetAt.copy (h : NetAt A H G s) (hl : ∀ i k, i < s.sites.length → (linksOf s i k).length = s.sites.length) {i : Nat} {k : Bool} (hi : i < s.sites.length) : CopyAt A H s.sites.length (G.cg i k) (linksOf s i k) :=
  ⟨hl i k hi, fun r hr => h.here (.cp i k r) ⟨hi, hr⟩, fun r r' hr hr' e => by
    have := h.inj (.cp i k r) (.cp i k r') ⟨hi, hr⟩ ⟨hi, hr'⟩ e
    injection this, fun r hr => h.pay i k r hi hr, fun r r' hr hr' => h.out (.cp i k r) i k r' ⟨hi, hr⟩ hi hr'⟩
/-- an address that the heap doesn't know is outside -/
theorem NetAt.fresh (h : NetAt A H G s) {b : Addr} (hb : H b = none) : Out G s b := fun r hr e => by
  have := h.here r hr
  rw [e, hb] at this
  cases this
/-- what is written at one role -/
theorem NetAt.write (h : NetAt A H G s) {r0 : Role} {o : HO} (hr : r0.ok s.sites.length s.wires.length) (hn : s'.sites.length = s.sites.length) (hm : s'.wires.length = s.wires.length) (ead : G'.ad = G.ad)
    (h0 : con A G' s' r0 = o) (hc : ∀ r, r.ok s.sites.length s.wires.length → r ≠ r0 → con A G' s' r = con A G s r)
    (hp : ∀ i k c, i < s.sites.length → c.ok s.sites.length → Pays H (G'.ps i k c) (msgs (linksOf s' i k) c)) (ho : ∀ i k c, i < s.sites.length → c.ok s.sites.length → ∀ a ∈ G'.ps i k c, Out G s a) (hw : ∀ a, Pz G' s' a → Pz G s a ∨ W a) :
    Step A W H G s (upd H (G.ad r0) o) G' s' := by
  refine ⟨⟨fun r hr' => ?_, fun r r' hr1 hr2 e => ?_, fun i k c hi hc' => ?_, fun r i k c hr' hi hc' hm' => ?_⟩, by rw [ead], fun b u hb hob => ⟨?_, fun r hr' e => ?_⟩, dom_upd (Ex.refl H), hw⟩
  · rw [hn, hm] at hr'
    rw [ead]
    by_cases e : r = r0
    · subst e
      rw [upd_same, h0]
    · rw [upd_ne (fun z => e (h.inj r r0 hr' hr z)), h.here r hr', hc r hr' e]
  · rw [hn, hm] at hr1 hr2
    rw [ead] at e
    exact h.inj r r' hr1 hr2 e
  · rw [hn] at hi hc'
    refine (hp i k c hi hc').ex fun a ha u hu => ?_
    rw [upd_ne (fun z => ho i k c hi hc' a ha r0 hr z.symm)]
    exact hu
  · rw [hn, hm] at hr'
    rw [hn] at hi hc'
    rw [ead] at hm'
    exact ho i k c hi hc' _ hm' r hr' rfl
  · rw [upd_ne (fun z => hob r0 hr z.symm)]
    exact hb
  · rw [hn, hm] at hr'
    rw [ead] at e
    exact hob r hr' e
end
/-! ### reading the state -/
section
variable {σ : L2.St} {H : Hp} {G : NG} {s : Vbxlac.State} {te ti : TE}
theorem ev_sites (T : Txt K mg A) (h : NetAt A H G s) (he : Ev te σ H (.ref (G.ad .net))) : Ev (tFld K te "sites") σ H (.ref (G.ad .sitesL)) := ev_fld he (h.here .net trivial) T.cl_Network T.n_Network_sites fl_Network_sites
theorem ev_wires (T : Txt K mg A) (h : NetAt A H G s) (he : Ev te σ H (.ref (G.ad .net))) : Ev (tFld K te "wires") σ H (.ref (G.ad .wiresL)) := ev_fld he (h.here .net trivial) T.cl_Network T.n_Network_wires fl_Network_wires
theorem ev_duplicated (T : Txt K mg A) (h : NetAt A H G s) (he : Ev te σ H (.ref (G.ad .net))) : Ev (tFld K te "duplicated") σ H (.int (s.duplicated : Int)) := ev_fld he (h.here .net trivial) T.cl_Network T.n_Network_duplicated fl_Network_duplicated
theorem ev_present (T : Txt K mg A) (h : NetAt A H G s) {i : Nat} (hi : i < s.sites.length) (he : Ev te σ H (.ref (G.ad (.site i)))) : Ev (tFld K te "present") σ H (.ref (G.ad (.cp i false .self))) := ev_fld he (h.here (.site i) hi) T.cl_Site T.n_Site_present fl_Site_present
theorem ev_durable (T : Txt K mg A) (h : NetAt A H G s) {i : Nat} (hi : i < s.sites.length) (he : Ev te σ H (.ref (G.ad (.site i)))) : Ev (tFld K te "durable") σ H (.ref (G.ad (.cp i true .self))) := ev_fld he (h.here (.site i) hi) T.cl_Site T.n_Site_durable fl_Site_durable
theorem ev_octets (T : Txt K mg A) (h : NetAt A H G s) {j : Nat} (hj : j < s.wires.length) (he : Ev te σ H (.ref (G.ad (.wire j)))) : Ev (tFld K te "octets") σ H (.ref (G.ad (.oct j))) := ev_fld he (h.here (.wire j) hj) T.cl_WirePacket T.n_WirePacket_octets fl_WirePacket_octets
theorem ev_damaged (T : Txt K mg A) (h : NetAt A H G s) {j : Nat} (hj : j < s.wires.length) (he : Ev te σ H (.ref (G.ad (.wire j)))) : Ev (tFld K te "damaged") σ H (.bl (wireOf s j).damaged) := ev_fld he (h.here (.wire j) hj) T.cl_WirePacket T.n_WirePacket_damaged fl_WirePacket_damaged
theorem sq_sites (h : NetAt A H G s) : SqL K H (G.ad .sitesL) ((List.range s.sites.length).map fun i => .ref (G.ad (.site i))) := sq_of (h.here .sitesL trivial)
theorem sq_wires (h : NetAt A H G s) : SqL K H (G.ad .wiresL) ((List.range s.wires.length).map fun j => .ref (G.ad (.wire j))) := sq_of (h.here .wiresL trivial)
theorem range_at {α : Type} {n i : Nat} {f : Nat → α} (h : i < n) : ((List.range n).map f)[i]? = some (f i) := by
  rw [List.getElem?_map, List.getElem?_range h] <;> rfl
theorem at_range {α : Type} {n i : Nat} {f : Nat → α} {y : α} (h : ((List.range n).map f)[i]? = some y) : i < n ∧ y = f i := by
  have hi : i < n := by
    have := (List.getElem?_eq_some_iff.mp h).1
    simpa using this
  rw [range_at hi] at h
  exact ⟨hi, (Option.some.inj h).symm⟩
theorem ev_wireAt (T : Txt K mg A) (h : NetAt A H G s) {j : Nat} (hj : j < s.wires.length) (he : Ev te σ H (.ref (G.ad .net))) (hi : Ev ti σ H (.int (j : Int))) : Ev (tOp (rIxL K) (tFld K te "wires") ti) σ H (.ref (G.ad (.wire j))) :=
  ev_ixL (ev_wires T h he) hi (sq_wires h) (range_at hj)
end
section
variable {σ : L2.St} {H : Hp} {n : Nat} {g : CG} {l : List Vbxlac.Link} {te ti : TE}
theorem ev_sent (T : Txt K mg A) (h : CopyAt A H n g l) (he : Ev te σ H (.ref (g.ad .self))) : Ev (tFld K te "sent") σ H (.ref (g.ad .sentL)) := ev_fld he (h.here .self trivial) T.cl_SiteCopy T.n_SiteCopy_sent fl_SiteCopy_sent
theorem ev_acknowledged (T : Txt K mg A) (h : CopyAt A H n g l) (he : Ev te σ H (.ref (g.ad .self))) : Ev (tFld K te "acknowledged") σ H (.ref (g.ad .ackL)) := ev_fld he (h.here .self trivial) T.cl_SiteCopy T.n_SiteCopy_acknowledged fl_SiteCopy_acknowledged
theorem ev_received (T : Txt K mg A) (h : CopyAt A H n g l) (he : Ev te σ H (.ref (g.ad .self))) : Ev (tFld K te "received") σ H (.ref (g.ad .recL)) := ev_fld he (h.here .self trivial) T.cl_SiteCopy T.n_SiteCopy_received fl_SiteCopy_received
theorem ev_sentAt (T : Txt K mg A) (h : CopyAt A H n g l) {j : Nat} (hj : j ≤ n) (he : Ev te σ H (.ref (g.ad .self))) (hi : Ev ti σ H (.int (j : Int))) : Ev (tOp (rIxL K) (tFld K te "sent") ti) σ H (.ref (g.ad (.sent j))) :=
  ev_ixL (ev_sent T h he) hi (sq_of (h.here .sentL trivial)) (range_at (by omega))
theorem ev_ackAt (T : Txt K mg A) (h : CopyAt A H n g l) {j : Nat} (hj : j ≤ n) (he : Ev te σ H (.ref (g.ad .self))) (hi : Ev ti σ H (.int (j : Int))) : Ev (tOp (rIxL K) (tFld K te "acknowledged") ti) σ H (.int ((plc l j).acknowledged : Int)) :=
  ev_ixL (ev_acknowledged T h he) hi (sq_of (h.here .ackL trivial)) (range_at (by omega))
theorem ev_recAt (T : Txt K mg A) (h : CopyAt A H n g l) {j : Nat} (hj : j ≤ n) (he : Ev te σ H (.ref (g.ad .self))) (hi : Ev ti σ H (.int (j : Int))) : Ev (tOp (rIxL K) (tFld K te "received") ti) σ H (.ref (g.ad (.recv j))) :=
  ev_ixL (ev_received T h he) hi (sq_of (h.here .recL trivial)) (range_at (by omega))
theorem sq_sent (h : CopyAt A H n g l) {j : Nat} (hj : j ≤ n) : SqL K H (g.ad (.sent j)) ((g.ps (.sent j)).map .ref) := sq_of (h.here (.sent j) hj)
theorem sq_recv (h : CopyAt A H n g l) {j : Nat} (hj : j ≤ n) : SqL K H (g.ad (.recv j)) ((g.ps (.recv j)).map .ref) := sq_of (h.here (.recv j) hj)
theorem len_sent (h : CopyAt A H n g l) {j : Nat} (hj : j ≤ n) : (g.ps (.sent j)).length = (plc l j).sent.length := (h.pay (.sent j) hj).1
theorem len_recv (h : CopyAt A H n g l) {j : Nat} (hj : j ≤ n) : (g.ps (.recv j)).length = (plc l j).received.length := (h.pay (.recv j) hj).1
theorem plc_pos {j : Nat} (h : 1 ≤ j) : plc l j = Vbxlac.linkAt l j := if_neg (by omega)
end
end Sur
namespace Sur
open PySem PySem.Spec PyProof.Rows L2 Evl
variable {P : Program} {w : World} {K : PySem.W.Frag} {mg : Str → Option Value} {base : Heap} {A : Ads} {W : Addr → Prop}
/-! ## Refusals -/
section
variable {σ : L2.St} {H : Hp} {ta tb tl : TE} {x z v : V} {xs : List V} {sp : Sp}
/-- a call with a new list in the middle -/
theorem ev_callL (h0 : Ev ta σ H x) (hl : EvL tl σ H xs) (h2 : ∀ H1, Ex H H1 → Ev tb σ H1 z) (hs : ∀ p H1, Ex H H1 → H1 p = some (.lst xs) → SpV sp [x, .ref p, z] H1 v) : Ev (tCall sp [] E0 (tCons ta (tCons tl (tCons tb tNil)))) σ H v := fun H1 e Q q =>
  h0 H1 e _ fun H2 e2 => hl H2 (e.trans e2) _ fun p H3 _ e3 h3 => h2 H3 ((e.trans e2).trans e3) H3 (Ex.refl H3) _ fun H4 e4 => hs p H4 (((e.trans e2).trans e3).trans e4) (e4 p _ h3) H4 (Ex.refl H4) Q (fun H5 e5 => q H5 (((e2.trans e3).trans e4).trans e5)) E0
theorem ev_meth0 {C a dx : Addr} {m : Str} {fs : List (Str × V)} (h : Ev ta σ H (.ref a)) (ho : H a = some (.ins C dx fs)) (l : fs.lookup m = none) (hs : SpV sp [.ref a] H v) : Ev (tMeth C m sp [] E0 ta tNil) σ H v := fun H1 e Q q =>
  h H1 e _ fun H2 e2 => ⟨a, dx, fs, rfl, e2 a _ (e a _ ho), l, hs H2 (e.trans e2) Q (fun H3 e3 => q H3 (e2.trans e3)) E0⟩
theorem el_meth0 {C a dx : Addr} {m : Str} {fs : List (Str × V)} (h : Ev ta σ H (.ref a)) (ho : H a = some (.ins C dx fs)) (l : fs.lookup m = none) (hs : SpL sp [.ref a] H xs) : EvL (tMeth C m sp [] E0 ta tNil) σ H xs := fun H1 e Q q =>
  h H1 e _ fun H2 e2 => ⟨a, dx, fs, rfl, e2 a _ (e a _ ho), l, hs H2 (e.trans e2) Q (fun p H3 n e3 h3 => q p H3 (fresh_back e2 n) (e2.trans e3) h3) E0⟩
theorem ev_meth1 {C a dx : Addr} {m : Str} {fs : List (Str × V)} (h : Ev ta σ H (.ref a)) (ho : H a = some (.ins C dx fs)) (l : fs.lookup m = none) (hb : Ev tb σ H x) (hs : SpV sp [.ref a, x] H v) : Ev (tMeth C m sp [] E0 ta (tCons tb tNil)) σ H v := fun H1 e Q q =>
  h H1 e _ fun H2 e2 => ⟨a, dx, fs, rfl, e2 a _ (e a _ ho), l, hb H2 (e.trans e2) _ fun H3 e3 => hs H3 ((e.trans e2).trans e3) Q (fun H4 e4 => q H4 ((e2.trans e3).trans e4)) E0⟩
end
/-- the code that the checks shared by all calls give -/
def siteCode (s : Vbxlac.State) (nums : List Int) (fit : Bool) : Int :=
  if s.sites.isEmpty = true then -4 else if (!fit || !nums.all Vbxlac.isSite) = true then -1 else if nums.any (fun x => decide ((s.sites.length : Int) < x)) = true then -2 else 0
def pairCode (s : Vbxlac.State) (a b : Int) (fit : Bool) : Int := if siteCode s [a, b] fit = 0 ∧ a = b then -6 else siteCode s [a, b] fit
def pktCode (s : Vbxlac.State) (i : Int) (fit : Bool) : Int := if siteCode s [] fit = 0 ∧ ¬ (0 ≤ i ∧ i < (s.wires.length : Int)) then -3 else siteCode s [] fit
theorem withSites_code (s : Vbxlac.State) (v : Bool) (xs : List Int) (f : Unit → Vbxlac.Result) (w : Bool) (hw : (!v) = (!w || !xs.all Vbxlac.isSite)) :
    Vbxlac.withSites s v xs f = if siteCode s xs w = 0 then f () else .error (siteCode s xs w) := by
  unfold Vbxlac.withSites siteCode
  rw [← hw]
  by_cases h1 : s.sites.isEmpty = true
  · simp [h1]
  · rw [if_neg h1, if_neg h1]
    cases v with
    | false => simp
    | true =>
      simp only [Bool.not_true, Bool.true_eq_false, Bool.false_eq_true, if_false]
      show (if xs.any (fun x => decide ((s.sites.length : Int) < x)) = true then _ else _) = _
      by_cases h3 : xs.any (fun x => decide ((s.sites.length : Int) < x)) = true
      · simp [h3]
      · simp [h3]
theorem withPair_code (s : Vbxlac.State) (v : Bool) (a b : Int) (f : Nat → Nat → Vbxlac.Result) :
    Vbxlac.withPair s v a b f = if pairCode s a b v = 0 then f a.toNat b.toNat else .error (pairCode s a b v) := by
  unfold Vbxlac.withPair pairCode
  rw [withSites_code s _ [a, b] _ v (by cases v <;> cases h1 : Vbxlac.isSite a <;> cases h2 : Vbxlac.isSite b <;> simp [h1, h2])]
  by_cases h1 : siteCode s [a, b] v = 0
  · by_cases h2 : a = b
    · subst h2
      simp [h1]
    · simp [h1, h2]
  · simp [h1]
theorem withPacket_code (s : Vbxlac.State) (v : Bool) (i : Int) (f : Nat → Vbxlac.WirePacket → Vbxlac.Result) :
    Vbxlac.withPacket s v i f = if pktCode s i v = 0 then f i.toNat (wireOf s i.toNat) else .error (pktCode s i v) := by
  unfold Vbxlac.withPacket pktCode
  rw [withSites_code s _ [] _ v (by simp)]
  by_cases h1 : siteCode s [] v = 0
  · rw [if_pos h1]
    by_cases h2 : 0 ≤ i ∧ i < (s.wires.length : Int)
    · have h3 : ¬ i < 0 := by omega
      have h4 : i.toNat < s.wires.length := by omega
      simp only [h1, h2, h3, if_false, true_and, not_true_eq_false, and_true, and_self, if_true]
      unfold wireOf
      rw [List.getElem?_eq_getElem h4]
      simp
    · have h3 : (if i < 0 then none else s.wires[i.toNat]?) = none := by
        by_cases h5 : i < 0
        · rw [if_pos h5]
        · rw [if_neg h5]
          exact List.getElem?_eq_none (by omega)
      rw [h3]
      simp [h1, h2]
  · simp [h1]
def sp_sites_refusal (K : PySem.W.Frag) (A : Ads) : Sp := fun vs H Q _ => ∃ (G : NG) (s : Vbxlac.State) (a : Addr) (ns : List Int) (fit : Bool), vs = [.ref (G.ad .net), .ref a, .bl fit] ∧ NetAt A H G s ∧ SqL K H a (ns.map V.int) ∧ ns.length ≤ 1000 ∧ ∀ H2, Ex H H2 → Q (.int (siteCode s ns fit)) H2
theorem len_sites_refusal : ∀ vs H Q E, sp_sites_refusal K A vs H Q E → vs.length = (["network", "numbers", "others_fit"] : List Str).length := by
  rintro vs H Q E ⟨G, s, a, ns, fit, rfl, _⟩
  rfl
def t_sites_refusal (K : PySem.W.Frag) (A : Ads) : TS :=
 tSeq (tIfS (tNot (tTru K (tFld K (tVar 0) "sites")))
 (tRet (tC (.int (-4))))
 (tNext))
 (tSeq (tIfS (tOr (tNot (tB (tVar 2))) (tNot (tB (tCB (rAll K) (tCons (tLc (iList K (tVar 1)) (gName 3) (tYes) (tCall (sp_is_site_number K A) [] E0 (tCons (tVar 3) (tNil))) [3]) (tNil))))))
 (tRet (tC (.int (-1))))
 (tNext))
 (tSeq (tIfS (tB (tCB (rAny K) (tCons (tLc (iList K (tVar 1)) (gName 3) (tYes) (tOp (rGt) (tVar 3) (tCB (rLenS K) (tCons (tFld K (tVar 0) "sites") (tNil)))) [3]) (tNil))))
 (tRet (tC (.int (-2))))
 (tNext))
 (tRet (tC (.int 0)))))
theorem isEmpty_range {α β : Type} {l : List β} {f : Nat → α} : ((List.range l.length).map f).isEmpty = l.isEmpty := by
  cases l with
  | nil => rfl
  | cons x r =>
    rw [List.length_cons, List.range_succ_eq_map]
    rfl
theorem pure_sites_refusal (T : Txt K mg A) (vs : List V) (H : Hp) (Q : VK) (E : XK) (h : sp_sites_refusal K A vs H Q E) : t_sites_refusal K A { nx := fun _ H' => Q .non H', rt := Q } (start ["network", "numbers", "others_fit", "number"] vs) H := by
  obtain ⟨G, s, a, ns, fit, rfl, hN, hs, hz, k⟩ := h
  refine q_when (b := s.sites.isEmpty) (et_is (et_not (et_tru (ev_sites T hN (ev_var rfl)) (sq_sites hN))) (by rw [isEmpty_range, Bool.not_not])) (fun hb H1 e1 => ?_) (fun hb H1 e1 => ?_)
  · refine s_ret ev_c fun H2 e2 => ?_
    have : siteCode s ns fit = -4 := if_pos hb
    rw [← this]
    exact k H2 (e1.trans e2)
  · have hb' : ¬ s.sites.isEmpty = true := by rw [hb]; exact Bool.false_ne_true
    refine q_when (b := !fit || !ns.all Vbxlac.isSite) ?_ (fun hc H2 e2 => ?_) (fun hc H2 e2 => ?_)
    · refine et_or (et_not (et_B (ev_var rfl))) fun _ => et_not (et_B ?_)
      have e : ns.all Vbxlac.isSite = (ns.map fun n => decide ((1 : Int) ≤ n) && decide (n ≤ 4)).all id := by
        rw [List.all_map]
        rfl
      rw [e]
      refine ev_allN (el_map (ev_var rfl) (ex_l e1 hs) (by rw [List.length_map]; omega) (fun _ => rfl) (by simp) fun i x y H2 e2 hx hy => ?_)
      obtain ⟨b, hb, rfl⟩ := int_at hx
      have hy' : y = .bl (decide ((1 : Int) ≤ b) && decide (b ≤ 4)) := by
        rw [List.getElem?_map, List.getElem?_map, hb] at hy
        exact (Option.some.inj hy).symm
      rw [hy']
      exact ev_call (ea_cons (ev_var rfl) ea_nil) sv_is_site_number
    · refine s_ret ev_c fun H3 e3 => ?_
      have : siteCode s ns fit = -1 := by unfold siteCode; rw [if_neg hb', if_pos hc]
      rw [← this]
      exact k H3 ((e1.trans e2).trans e3)
    · have hc' : ¬ (!fit || !ns.all Vbxlac.isSite) = true := by rw [hc]; exact Bool.false_ne_true
      have e12 := e1.trans e2
      refine q_when (b := ns.any fun x => decide ((s.sites.length : Int) < x)) ?_ (fun hd H3 e3 => ?_) (fun hd H3 e3 => ?_)
      · have e : (ns.any fun x => decide ((s.sites.length : Int) < x)) = (ns.map fun n => decide ((s.sites.length : Int) < n)).any id := by
          rw [List.any_map]
          rfl
        rw [e]
        refine et_B (ev_anyN (el_map (ev_var rfl) (ex_l e12 hs) (by rw [List.length_map]; omega) (fun _ => rfl) (by simp) fun i x y H3 e3 hx hy => ?_))
        obtain ⟨b, hb, rfl⟩ := int_at hx
        have hy' : y = .bl (decide ((s.sites.length : Int) < b)) := by
          rw [List.getElem?_map, List.getElem?_map, hb] at hy
          exact (Option.some.inj hy).symm
        rw [hy']
        have hN3 := hN.ex (e12.trans e3)
        refine ev_is (ev_op (ev_var rfl) (ev_len (ev_sites T hN3 (ev_var rfl)) (sq_sites hN3)) rv_I0) ?_
        rw [List.length_map, List.length_range]
      · refine s_ret ev_c fun H4 e4 => ?_
        have : siteCode s ns fit = -2 := by unfold siteCode; rw [if_neg hb', if_neg hc', if_pos hd]
        rw [← this]
        exact k H4 ((e12.trans e3).trans e4)
      · refine s_ret ev_c fun H4 e4 => ?_
        have : siteCode s ns fit = 0 := by unfold siteCode; rw [if_neg hb', if_neg hc', if_neg (by rw [hd]; exact Bool.false_ne_true)]
        rw [← this]
        exact k H4 ((e12.trans e3).trans e4)
theorem sv_sites_refusal {G : NG} {s : Vbxlac.State} {a : Addr} {ns : List Int} {fit : Bool} {H : Hp} (hN : NetAt A H G s) (hs : SqL K H a (ns.map V.int)) (hz : ns.length ≤ 1000) : SpV (sp_sites_refusal K A) [.ref (G.ad .net), .ref a, .bl fit] H (.int (siteCode s ns fit)) :=
  fun H1 e Q q E => ⟨G, s, a, ns, fit, rfl, hN.ex e, ex_l e hs, hz, q⟩
def sp_pair_refusal (K : PySem.W.Frag) (A : Ads) : Sp := fun vs H Q _ => ∃ (G : NG) (s : Vbxlac.State) (x y : Int) (fit : Bool), vs = [.ref (G.ad .net), .int x, .int y, .bl fit] ∧ NetAt A H G s ∧ ∀ H2, Ex H H2 → Q (.int (pairCode s x y fit)) H2
theorem len_pair_refusal : ∀ vs H Q E, sp_pair_refusal K A vs H Q E → vs.length = (["network", "one", "other", "others_fit"] : List Str).length := by
  rintro vs H Q E ⟨G, s, x, y, fit, rfl, _⟩
  rfl
def t_pair_refusal (K : PySem.W.Frag) (A : Ads) : TS :=
 tSeq (tAsg (tCall (sp_sites_refusal K A) [] E0 (tCons (tVar 0) (tCons (tLst (tCons (tVar 1) (tCons (tVar 2) (tNil)))) (tCons (tVar 3) (tNil))))) (gName 4))
 (tSeq (tIfS (tAnd (tTest (tOp (rEq) (tVar 4) (tC (.int 0)))) (tTest (tOp (rEq) (tVar 1) (tVar 2))))
 (tRet (tC (.int (-6))))
 (tNext))
 (tRet (tVar 4)))
theorem dec_vint (a b : Int) : decide (V.int a = V.int b) = decide (a = b) := decide_eq_decide.mpr ⟨fun h => V.int.inj h, fun h => congrArg V.int h⟩
theorem pure_pair_refusal (T : Txt K mg A) (vs : List V) (H : Hp) (Q : VK) (E : XK) (h : sp_pair_refusal K A vs H Q E) : t_pair_refusal K A { nx := fun _ H' => Q .non H', rt := Q } (start ["network", "one", "other", "others_fit", "refusal"] vs) H := by
  obtain ⟨G, s, x, y, fit, rfl, hN, k⟩ := h
  refine q_asg (v := .int (siteCode s [x, y] fit)) (ev_callL (ev_var rfl) (el_lst (ea_cons (ev_var rfl) (ea_cons (ev_var rfl) ea_nil)) (by show 2 ≤ 100000; decide)) (fun H1 e1 => ev_var rfl) (fun p H1 e1 h1 => sv_sites_refusal (hN.ex e1) (sq_of h1) (by show 2 ≤ 1000; decide))) fun H1 e1 => ?_
  refine q_when (b := decide (siteCode s [x, y] fit = 0) && decide (x = y)) ?_ (fun hb H2 e2 => ?_) (fun hb H2 e2 => ?_)
  · rw [← dec_vint, ← dec_vint]
    exact et_and (et_test (ev_op (ev_var rfl) ev_c (rv_eq rfl))) fun _ => et_test (ev_op (ev_var rfl) (ev_var rfl) (rv_eq rfl))
  · refine s_ret ev_c fun H3 e3 => ?_
    have : pairCode s x y fit = -6 := if_pos (by simpa using hb)
    rw [← this]
    exact k H3 ((e1.trans e2).trans e3)
  · refine s_ret (ev_var rfl) fun H3 e3 => ?_
    have : pairCode s x y fit = siteCode s [x, y] fit := if_neg (fun z => by rw [decide_eq_true z.1, decide_eq_true z.2] at hb; cases hb)
    rw [← this]
    exact k H3 ((e1.trans e2).trans e3)
theorem sv_pair_refusal {G : NG} {s : Vbxlac.State} {x y : Int} {fit : Bool} {H : Hp} (hN : NetAt A H G s) : SpV (sp_pair_refusal K A) [.ref (G.ad .net), .int x, .int y, .bl fit] H (.int (pairCode s x y fit)) :=
  fun H1 e Q q E => ⟨G, s, x, y, fit, rfl, hN.ex e, q⟩
def sp_packet_refusal (K : PySem.W.Frag) (A : Ads) : Sp := fun vs H Q _ => ∃ (G : NG) (s : Vbxlac.State) (i : Int) (fit : Bool), vs = [.ref (G.ad .net), .int i, .bl fit] ∧ NetAt A H G s ∧ ∀ H2, Ex H H2 → Q (.int (pktCode s i fit)) H2
theorem len_packet_refusal : ∀ vs H Q E, sp_packet_refusal K A vs H Q E → vs.length = (["network", "index", "others_fit"] : List Str).length := by
  rintro vs H Q E ⟨G, s, i, fit, rfl, _⟩
  rfl
def t_packet_refusal (K : PySem.W.Frag) (A : Ads) : TS :=
 tSeq (tAsg (tCall (sp_sites_refusal K A) [] E0 (tCons (tVar 0) (tCons (tLst (tNil)) (tCons (tVar 2) (tNil))))) (gName 3))
 (tSeq (tIfS (tAnd (tTest (tOp (rEq) (tVar 3) (tC (.int 0)))) (tNot (tTest (tChain rLe rLt (tC (.int 0)) (tVar 1) (tCB (rLenS K) (tCons (tFld K (tVar 0) "wires") (tNil)))))))
 (tRet (tC (.int (-3))))
 (tNext))
 (tRet (tVar 3)))
theorem pure_packet_refusal (T : Txt K mg A) (vs : List V) (H : Hp) (Q : VK) (E : XK) (h : sp_packet_refusal K A vs H Q E) : t_packet_refusal K A { nx := fun _ H' => Q .non H', rt := Q } (start ["network", "index", "others_fit", "refusal"] vs) H := by
  obtain ⟨G, s, i, fit, rfl, hN, k⟩ := h
  refine q_asg (v := .int (siteCode s [] fit)) (ev_callL (ev_var rfl) (el_lst ea_nil (by decide)) (fun H1 e1 => ev_var rfl) (fun p H1 e1 h1 => sv_sites_refusal (ns := []) (hN.ex e1) (sq_of h1) (by decide))) fun H1 e1 => ?_
  have hN1 := hN.ex e1
  refine q_when (b := decide (siteCode s [] fit = 0) && !(decide (0 ≤ i) && decide (i < (s.wires.length : Int)))) ?_ (fun hb H2 e2 => ?_) (fun hb H2 e2 => ?_)
  · rw [← dec_vint]
    refine et_and (et_test (ev_op (ev_var rfl) ev_c (rv_eq rfl))) fun _ => et_not (et_test (ev_is (ev_chain ev_c (ev_var rfl) rv_I0 (fun _ => ev_len (ev_wires T hN1 (ev_var rfl)) (sq_wires hN1)) (fun _ => rv_I0)) ?_))
    rw [List.length_map, List.length_range]
  · refine s_ret ev_c fun H3 e3 => ?_
    have : pktCode s i fit = -3 := if_pos (by simp at hb; omega)
    rw [← this]
    exact k H3 ((e1.trans e2).trans e3)
  · refine s_ret (ev_var rfl) fun H3 e3 => ?_
    have : pktCode s i fit = siteCode s [] fit := if_neg (fun z => by
      obtain ⟨z1, z2⟩ := z
      rw [decide_eq_true z1] at hb
      simp at hb
      exact z2 hb)
    rw [← this]
    exact k H3 ((e1.trans e2).trans e3)
theorem sv_packet_refusal {G : NG} {s : Vbxlac.State} {i : Int} {fit : Bool} {H : Hp} (hN : NetAt A H G s) : SpV (sp_packet_refusal K A) [.ref (G.ad .net), .int i, .bl fit] H (.int (pktCode s i fit)) :=
  fun H1 e Q q E => ⟨G, s, i, fit, rfl, hN.ex e, q⟩
/-! ### a site by its number -/
def sp_Network_site (K : PySem.W.Frag) (A : Ads) : Sp := fun vs H Q _ => ∃ (G : NG) (s : Vbxlac.State) (x : Nat), vs = [.ref (G.ad .net), .int (x : Int)] ∧ NetAt A H G s ∧ 1 ≤ x ∧ x ≤ s.sites.length ∧ ∀ H2, Ex H H2 → Q (.ref (G.ad (.site (x - 1)))) H2
theorem len_Network_site : ∀ vs H Q E, sp_Network_site K A vs H Q E → vs.length = (["self", "number"] : List Str).length := by
  rintro vs H Q E ⟨G, s, x, rfl, _⟩
  rfl
def t_Network_site (K : PySem.W.Frag) (A : Ads) : TS :=
 tRet (tOp (rIxL K) (tFld K (tVar 0) "sites") (tOp rMinus (tVar 1) (tC (.int 1))))
theorem pure_Network_site (T : Txt K mg A) (vs : List V) (H : Hp) (Q : VK) (E : XK) (h : sp_Network_site K A vs H Q E) : t_Network_site K A { nx := fun _ H' => Q .non H', rt := Q } (start ["self", "number"] vs) H := by
  obtain ⟨G, s, x, rfl, hN, h1, h2, k⟩ := h
  refine s_ret (ev_ixL (j := x - 1) (ev_sites T hN (ev_var rfl)) (ev_is (ev_op (ev_var rfl) ev_c rv_I0) ?_) (sq_sites hN) (range_at (by omega))) k
  congr 1
  omega
theorem ev_site (T : Txt K mg A) {G : NG} {s : Vbxlac.State} {x : Nat} {H : Hp} {σ : L2.St} {ta tb : TE} (hN : NetAt A H G s) (h1 : 1 ≤ x) (h2 : x ≤ s.sites.length) (ha : Ev ta σ H (.ref (G.ad .net))) (hb : Ev tb σ H (.int (x : Int))) :
    Ev (tMeth A.c_Network "site" (sp_Network_site K A) [] E0 ta (tCons tb tNil)) σ H (.ref (G.ad (.site (x - 1)))) :=
  ev_meth1 ha (hN.here .net trivial) fl_Network_m_site hb fun H1 e Q q E => ⟨G, s, x, rfl, hN.ex e, h1, h2, q⟩
end Sur
namespace Sur
open PySem PySem.Spec PyProof.Rows L2 Evl
variable {P : Program} {w : World} {K : PySem.W.Frag} {mg : Str → Option Value} {base : Heap} {A : Ads} {W : Addr → Prop}
/-! ## The copies of a site -/
theorem linkAt_pos (l : List Vbxlac.Link) (j : Nat) : Vbxlac.linkAt l (j + 1) = (l[j]?).getD Vbxlac.emptyLink := rfl
theorem plc_range {α : Type} {n : Nat} {l : List Vbxlac.Link} (hl : l.length = n) (f : Vbxlac.Link → α) : (List.range (n + 1)).map (fun j => f (plc l j)) = f Vbxlac.emptyLink :: l.map f := by
  subst hl
  apply List.ext_getElem?
  intro i
  cases i with
  | zero => rw [range_at (by omega)] <;> rfl
  | succ i =>
    rw [List.getElem?_cons_succ]
    by_cases hi : i < l.length
    · rw [range_at (by omega), List.getElem?_map, List.getElem?_eq_getElem hi]
      show some (f (plc l (i + 1))) = some (f l[i])
      have e : plc l (i + 1) = l[i] := by
        unfold plc
        rw [if_neg (by omega), linkAt_pos, List.getElem?_eq_getElem hi] <;> rfl
      rw [e]
    · rw [List.getElem?_eq_none (by simp; omega), List.getElem?_eq_none (by simp; omega)] <;> rfl
theorem sum_cast (l : List Vbxlac.Link) (f : Vbxlac.Link → Nat) : (l.map fun x => ((f x : Nat) : Int)).sum = (((l.map f).sum : Nat) : Int) := by
  induction l with
  | nil => rfl
  | cons x r ih =>
    rw [List.map_cons, List.map_cons, List.sum_cons, List.sum_cons, ih]
    omega
theorem sum_plc {n : Nat} {l : List Vbxlac.Link} (hl : l.length = n) (f : Vbxlac.Link → Nat) (h0 : f Vbxlac.emptyLink = 0) : ((List.range (n + 1)).map fun j => ((f (plc l j) : Nat) : Int)).sum = (((l.map f).sum : Nat) : Int) := by
  rw [plc_range hl (fun x => ((f x : Nat) : Int)), List.sum_cons, sum_cast, h0]
  simp
def sp_SiteCopy_sent_count (K : PySem.W.Frag) (A : Ads) : Sp := fun vs H Q _ => ∃ (n : Nat) (g : CG) (l : List Vbxlac.Link), vs = [.ref (g.ad .self)] ∧ CopyAt A H n g l ∧ n ≤ 4 ∧ ∀ H2, Ex H H2 → Q (.int ((Vbxlac.sentCount l : Nat) : Int)) H2
theorem len_SiteCopy_sent_count : ∀ vs H Q E, sp_SiteCopy_sent_count K A vs H Q E → vs.length = (["self"] : List Str).length := by
  rintro vs H Q E ⟨n, g, l, rfl, _⟩
  rfl
def t_SiteCopy_sent_count (K : PySem.W.Frag) (A : Ads) : TS :=
 tRet (tCB (rSum K) (tCons (tLc (iList K (tFld K (tVar 0) "sent")) (gName 1) (tYes) (tCB (rLenS K) (tCons (tVar 1) (tNil))) [1]) (tNil)))
theorem ints_map {α : Type} (l : List α) (f : α → Int) : (l.map f).map V.int = l.map fun x => V.int (f x) := by
  rw [List.map_map] <;> rfl
theorem pure_SiteCopy_sent_count (T : Txt K mg A) (vs : List V) (H : Hp) (Q : VK) (E : XK) (h : sp_SiteCopy_sent_count K A vs H Q E) : t_SiteCopy_sent_count K A { nx := fun _ H' => Q .non H', rt := Q } (start ["self", "messages"] vs) H := by
  obtain ⟨n, g, l, rfl, hc, hn, k⟩ := h
  have e : ((Vbxlac.sentCount l : Nat) : Int) = ((List.range (n + 1)).map fun j => (((plc l j).sent.length : Nat) : Int)).sum := (sum_plc hc.len (fun x => x.sent.length) rfl).symm
  rw [e] at k
  refine s_ret (ev_sumN (el_map (ev_sent T hc (ev_var rfl)) (sq_of (hc.here .sentL trivial)) (by simp; omega) (fun _ => rfl) (by simp) fun i x y H1 e1 hx hy => ?_)) k
  obtain ⟨hi, rfl⟩ := at_range hx
  rw [ints_map] at hy
  obtain ⟨_, rfl⟩ := at_range hy
  have hj : i ≤ n := by omega
  refine ev_is (ev_len (ev_var rfl) (ex_l e1 (sq_sent hc hj))) ?_
  rw [List.length_map, len_sent hc hj]
def sp_SiteCopy_received_count (K : PySem.W.Frag) (A : Ads) : Sp := fun vs H Q _ => ∃ (n : Nat) (g : CG) (l : List Vbxlac.Link), vs = [.ref (g.ad .self)] ∧ CopyAt A H n g l ∧ n ≤ 4 ∧ ∀ H2, Ex H H2 → Q (.int ((Vbxlac.receivedCount l : Nat) : Int)) H2
theorem len_SiteCopy_received_count : ∀ vs H Q E, sp_SiteCopy_received_count K A vs H Q E → vs.length = (["self"] : List Str).length := by
  rintro vs H Q E ⟨n, g, l, rfl, _⟩
  rfl
def t_SiteCopy_received_count (K : PySem.W.Frag) (A : Ads) : TS :=
 tRet (tCB (rSum K) (tCons (tLc (iList K (tFld K (tVar 0) "received")) (gName 1) (tYes) (tCB (rLenS K) (tCons (tVar 1) (tNil))) [1]) (tNil)))
theorem pure_SiteCopy_received_count (T : Txt K mg A) (vs : List V) (H : Hp) (Q : VK) (E : XK) (h : sp_SiteCopy_received_count K A vs H Q E) : t_SiteCopy_received_count K A { nx := fun _ H' => Q .non H', rt := Q } (start ["self", "messages"] vs) H := by
  obtain ⟨n, g, l, rfl, hc, hn, k⟩ := h
  have e : ((Vbxlac.receivedCount l : Nat) : Int) = ((List.range (n + 1)).map fun j => (((plc l j).received.length : Nat) : Int)).sum := (sum_plc hc.len (fun x => x.received.length) rfl).symm
  rw [e] at k
  refine s_ret (ev_sumN (el_map (ev_received T hc (ev_var rfl)) (sq_of (hc.here .recL trivial)) (by simp; omega) (fun _ => rfl) (by simp) fun i x y H1 e1 hx hy => ?_)) k
  obtain ⟨hi, rfl⟩ := at_range hx
  rw [ints_map] at hy
  obtain ⟨_, rfl⟩ := at_range hy
  have hj : i ≤ n := by omega
  refine ev_is (ev_len (ev_var rfl) (ex_l e1 (sq_recv hc hj))) ?_
  rw [List.length_map, len_recv hc hj]
def sp_SiteCopy_acknowledged_sum (K : PySem.W.Frag) (A : Ads) : Sp := fun vs H Q _ => ∃ (n : Nat) (g : CG) (l : List Vbxlac.Link), vs = [.ref (g.ad .self)] ∧ CopyAt A H n g l ∧ n ≤ 4 ∧ ∀ H2, Ex H H2 → Q (.int ((Vbxlac.acknowledgedSum l : Nat) : Int)) H2
theorem len_SiteCopy_acknowledged_sum : ∀ vs H Q E, sp_SiteCopy_acknowledged_sum K A vs H Q E → vs.length = (["self"] : List Str).length := by
  rintro vs H Q E ⟨n, g, l, rfl, _⟩
  rfl
def t_SiteCopy_acknowledged_sum (K : PySem.W.Frag) (A : Ads) : TS :=
 tRet (tCB (rSum K) (tCons (tFld K (tVar 0) "acknowledged") (tNil)))
theorem pure_SiteCopy_acknowledged_sum (T : Txt K mg A) (vs : List V) (H : Hp) (Q : VK) (E : XK) (h : sp_SiteCopy_acknowledged_sum K A vs H Q E) : t_SiteCopy_acknowledged_sum K A { nx := fun _ H' => Q .non H', rt := Q } (start ["self"] vs) H := by
  obtain ⟨n, g, l, rfl, hc, hn, k⟩ := h
  have e : ((Vbxlac.acknowledgedSum l : Nat) : Int) = ((List.range (n + 1)).map fun j => (((plc l j).acknowledged : Nat) : Int)).sum := (sum_plc hc.len (fun x => x.acknowledged) rfl).symm
  rw [e] at k
  refine s_ret (ev_sum (ev_acknowledged T hc (ev_var rfl)) (by rw [ints_map]; exact sq_of (hc.here .ackL trivial))) k
section
variable {H : Hp} {n : Nat} {g : CG} {l : List Vbxlac.Link}
theorem sv_sent_count (hc : CopyAt A H n g l) (hn : n ≤ 4) : SpV (sp_SiteCopy_sent_count K A) [.ref (g.ad .self)] H (.int ((Vbxlac.sentCount l : Nat) : Int)) := fun H1 e Q q E => ⟨n, g, l, rfl, hc.ex e, hn, q⟩
theorem sv_received_count (hc : CopyAt A H n g l) (hn : n ≤ 4) : SpV (sp_SiteCopy_received_count K A) [.ref (g.ad .self)] H (.int ((Vbxlac.receivedCount l : Nat) : Int)) := fun H1 e Q q E => ⟨n, g, l, rfl, hc.ex e, hn, q⟩
theorem sv_acknowledged_sum (hc : CopyAt A H n g l) (hn : n ≤ 4) : SpV (sp_SiteCopy_acknowledged_sum K A) [.ref (g.ad .self)] H (.int ((Vbxlac.acknowledgedSum l : Nat) : Int)) := fun H1 e Q q E => ⟨n, g, l, rfl, hc.ex e, hn, q⟩
end
/-! ### lists of new lists -/
structure NewL (H1 : Hp) (D : Addr) (as : List Addr) (cs : List (List V)) (H2 : Hp) : Prop where
  nD : H1 D = none
  len : as.length = cs.length
  nd : as.Nodup
  fr : ∀ a ∈ as, H1 a = none ∧ a ≠ D
  here : ∀ (i : Nat) (a : Addr) (c : List V), as[i]? = some a → cs[i]? = some c → H2 a = some (.lst c)
  ex : Ex H1 H2
  lst : H2 D = some (.lst (as.map .ref))
def EvF (te : TE) (σ : L2.St) (H : Hp) (cs : List (List V)) : Prop := ∀ H1, Ex H H1 → ∀ Q : VK, (∀ D as H2, NewL H1 D as cs H2 → Q (.ref D) H2) → te σ H1 Q
/-- the new list so far -/
structure NewI (H1 : Hp) (D : Addr) (i : Nat) (cs : List (List V)) (H2 : Hp) : Prop where
  nD : H1 D = none
  ex : Ex H1 H2
  more : ∃ as : List Addr, as.length = i ∧ as.Nodup ∧ (∀ a ∈ as, H1 a = none ∧ a ≠ D) ∧ (∀ (j : Nat) (a : Addr) (c : List V), as[j]? = some a → cs[j]? = some c → H2 a = some (.lst c)) ∧ H2 D = some (.lst (as.map .ref))
theorem NewI.start {H1 : Hp} {D : Addr} {cs : List (List V)} (h : H1 D = none) : NewI H1 D 0 cs (upd H1 D (.lst [])) :=
  ⟨h, Ex.new h, [], rfl, List.nodup_nil, (fun a ha => by cases ha), (fun j a c ha => by simp at ha), upd_same⟩
theorem NewI.turn {H1 H2 H3 : Hp} {D p : Addr} {i : Nat} {cs : List (List V)} {c : List V} (h : NewI H1 D i cs H2) (hc : cs[i]? = some c) (e : Ex H2 H3) (np : H2 p = none) (hp : H3 p = some (.lst c)) (hi : i < 40000) :
    ∃ acc, H3 D = some (.lst acc) ∧ acc.length < sizeLine ∧ NewI H1 D (i + 1) cs (upd H3 D (.lst (acc ++ [.ref p]))) := by
  obtain ⟨as, l, nd, fr, hr, hl⟩ := h.more
  have pD : p ≠ D := fun z => by rw [z, hl] at np; cases np
  have pas : p ∉ as := fun z => by
    obtain ⟨j, hj⟩ := List.mem_iff_getElem?.mp z
    have jl : j < i := by rw [← l]; exact (List.getElem?_eq_some_iff.mp hj).1
    have : j < cs.length := Nat.lt_trans jl (List.getElem?_eq_some_iff.mp hc).1
    have q := hr j p _ hj (List.getElem?_eq_getElem this)
    rw [np] at q
    cases q
  refine ⟨_, e _ _ hl, by rw [List.length_map, l]; exact Nat.lt_trans hi (by decide), h.nD, Ex.mut (h.ex.trans e) h.nD, as ++ [p], by simp [l], ?_, ?_, ?_, ?_⟩
  · rw [List.nodup_append]
    exact ⟨nd, by simp, fun a ha b hb => by
      have : b = p := by simpa using hb
      subst this
      exact fun z => pas (z ▸ ha)⟩
  · intro a ha
    rw [List.mem_append, List.mem_singleton] at ha
    rcases ha with ha | ha
    · exact fr a ha
    · subst ha
      exact ⟨fresh_back h.ex np, pD⟩
  · intro j a c' h1 h2
    by_cases hj : j < as.length
    · rw [List.getElem?_append_left hj] at h1
      rw [upd_ne (fr a (List.mem_of_getElem? h1)).2]
      exact e _ _ (hr j a c' h1 h2)
    · have hz : j = as.length := by
        have := (List.getElem?_eq_some_iff.mp h1).1
        simp at this
        omega
      subst hz
      rw [List.getElem?_append_right (Nat.le_refl _)] at h1
      simp at h1
      subst h1
      rw [l, hc] at h2
      cases h2
      rw [upd_ne pD]
      exact hp
  · rw [upd_same]
    simp
theorem NewI.done {H1 H2 : Hp} {D : Addr} {i : Nat} {cs : List (List V)} (h : NewI H1 D i cs H2) (hi : i = cs.length) : ∃ as, NewL H1 D as cs H2 := by
  obtain ⟨as, l, nd, fr, hr, hl⟩ := h.more
  exact ⟨as, h.nD, l.trans hi, nd, fr, hr, h.ex, hl⟩
section
variable {σ : L2.St} {H : Hp} {tl : TE} {ta : TA} {j : Nat} {vs : List Nat}
theorem ef_range {n : Nat} (h : EvA ta σ H [.int (n : Int)]) (hn : n ≤ 1000) (hw : ∀ x, wipe ((wipe σ vs).set j (some x)) vs = wipe σ vs) : EvF (tLc (iRng1 ta) (gName j) tYes (tLst tNil) vs) σ H (List.replicate n []) := fun H0 e Q q =>
  h H0 e _ fun H1 e1 => ⟨(n : Int), rfl, by omega, by omega, fun D hD => by
    refine lc_range (lo := 0) (n := (n : Int).toNat) (fun i H' => NewI H1 D i (List.replicate n []) H') (NewI.start hD) (fun i H' hi p => ?_) (fun H' p => ?_)
    · refine ⟨hw _, ?_⟩
      refine ⟨by decide, fun p' np => ?_⟩
      exact p.turn (c := []) (by rw [List.getElem?_replicate, if_pos (by omega)]) (Ex.new np) np upd_same (by omega)
    · obtain ⟨as, N⟩ := p.done (by simp)
      exact q D as H' ⟨fresh_back e1 N.nD, N.len, N.nd, fun a ha => ⟨fresh_back e1 (N.fr a ha).1, (N.fr a ha).2⟩, N.here, e1.trans N.ex, N.lst⟩⟩
theorem ef_list {a : Addr} {xs : List V} {cs : List (List V)} (h : Ev tl σ H (.ref a)) (hx : SqL K H a xs) (hz : xs.length ≤ 1000) (hl : cs.length = xs.length) (hw : ∀ x, wipe ((wipe σ vs).set j (some x)) vs = wipe σ vs)
    (hj : ∀ x, ((wipe σ vs).set j (some x))[j]? = some (some x)) (hc : ∀ (i : Nat) (x : V) (c : List V), xs[i]? = some x → cs[i]? = some c → ∃ b, x = .ref b ∧ SqL K H b c) : EvF (tLc (iList K tl) (gName j) tYes (tCB (rListS K) (tCons (tVar j) tNil)) vs) σ H cs := fun H0 e Q q =>
  h H0 e _ fun H1 e1 => ⟨a, rfl, ⟨xs, ex_l (e.trans e1) hx⟩, fun D hD => by
    refine lc_list (K := K) (a := a) (xs := xs) (fun i H' => NewI H1 D i cs H') (NewI.start hD) (fun i H' _ p => ex_l ((e.trans e1).trans p.ex) hx) (fun i x H' hi p => ?_) (fun H' p => ?_)
    · have hi' : i < cs.length := by rw [hl]; exact (List.getElem?_eq_some_iff.mp hi).1
      obtain ⟨b, rfl, hb⟩ := hc i x _ hi (List.getElem?_eq_getElem hi')
      refine ⟨hw _, ?_⟩
      refine ⟨.ref b, hj _, b, _, rfl, .inl (ex_l ((e.trans e1).trans p.ex) hb), fun p' np => ?_⟩
      exact p.turn (List.getElem?_eq_getElem hi') (Ex.new np) np upd_same (by omega)
    · obtain ⟨as, N⟩ := p.done hl.symm
      exact q D as H' ⟨fresh_back e1 N.nD, N.len, N.nd, fun a ha => ⟨fresh_back e1 (N.fr a ha).1, (N.fr a ha).2⟩, N.here, e1.trans N.ex, N.lst⟩⟩
end
/-- addresses that came up one stage after another -/
theorem inj_of_stage {ρ : Type} {ok : ρ → Prop} {ad : ρ → Addr} (S : Nat → Hp) (mono : ∀ i a o, S i a = some o → ∃ o', S (i + 1) a = some o') (st : ρ → Nat) (new : ∀ r, ok r → S (st r) (ad r) = none) (old : ∀ r, ok r → ∃ o, S (st r + 1) (ad r) = some o)
    (same : ∀ r r', ok r → ok r' → st r = st r' → ad r = ad r' → r = r') : ∀ r r', ok r → ok r' → ad r = ad r' → r = r' := by
  have up : ∀ (k i : Nat) (a : Addr) (o : HO), S i a = some o → ∃ o', S (i + k) a = some o' := by
    intro k
    induction k with
    | zero => exact fun i a o h => ⟨o, h⟩
    | succ k ih =>
      intro i a o h
      obtain ⟨o', h'⟩ := ih i a o h
      exact mono (i + k) a o' h'
  have lt : ∀ r r', ok r → ok r' → st r < st r' → ad r ≠ ad r' := fun r r' h h' hlt e => by
    obtain ⟨o, ho⟩ := old r h
    obtain ⟨o', ho'⟩ := up (st r' - (st r + 1)) _ _ _ ho
    rw [show st r + 1 + (st r' - (st r + 1)) = st r' by omega, e, new r' h'] at ho'
    cases ho'
  intro r r' h h' e
  rcases Nat.lt_trichotomy (st r) (st r') with z | z | z
  · exact absurd e (lt r r' h h' z)
  · exact same r r' h h' z e
  · exact absurd e.symm (lt r' r h' h z)
end Sur
namespace Sur
open PySem PySem.Spec PyProof.Rows L2 Evl
variable {P : Program} {w : World} {K : PySem.W.Frag} {mg : Str → Option Value} {base : Heap} {A : Ads} {W : Addr → Prop}
/-! ## Copies made, sites made -/
def mkG (p D1 D2 D3 : Addr) (as1 as3 : List Addr) (dx : Addr) (ps : CR → List Addr) : CG :=
  ⟨fun c => match c with
    | .self => p
    | .sentL => D1
    | .ackL => D2
    | .recL => D3
    | .sent j => as1.getD j 0
    | .recv j => as3.getD j 0, dx, ps⟩
theorem range_getD {α : Type} {as : List Addr} {m : Nat} (h : as.length = m) (f : Addr → α) : (List.range m).map (fun j => f (as.getD j 0)) = as.map f := by
  subst h
  apply List.ext_getElem?
  intro i
  by_cases hi : i < as.length
  · rw [range_at hi, List.getElem?_map, List.getElem?_eq_getElem hi]
    show some (f (as.getD i 0)) = some (f as[i])
    rw [List.getD_eq_getElem?_getD, List.getElem?_eq_getElem hi] <;> rfl
  · rw [List.getElem?_eq_none (by simp; omega), List.getElem?_eq_none (by simp; omega)]
theorem getD_here {as : List Addr} {j : Nat} (h : j < as.length) : as[j]? = some (as.getD j 0) := by
  rw [List.getD_eq_getElem?_getD, List.getElem?_eq_getElem h] <;> rfl
theorem getD_mem {as : List Addr} {j : Nat} (h : j < as.length) : as.getD j 0 ∈ as := List.mem_of_getElem? (getD_here h)
theorem nodup_getD {as : List Addr} (nd : as.Nodup) {i j : Nat} (hi : i < as.length) (hj : j < as.length) (e : as.getD i 0 = as.getD j 0) : i = j := by
  have h1 := getD_here hi
  have h2 := getD_here hj
  rw [← e] at h2
  exact nd_ix nd h1 h2
/-- a copy, from what was made one after another -/
theorem copy_mk {Ha Hb Hc Hd : Hp} {n : Nat} {dx p D1 D2 D3 : Addr} {as1 as3 : List Addr} {l : List Vbxlac.Link} {ps : CR → List Addr} (hl : l.length = n)
    (m1 : ∀ a o, Ha a = some o → ∃ o', Hb a = some o') (m2 : ∀ a o, Hb a = some o → ∃ o', Hc a = some o') (m3 : ∀ a o, Hc a = some o → ∃ o', Hd a = some o') (a0 : ∃ o, Ha p = some o)
    (n1 : Ha D1 = none) (f1 : ∀ a ∈ as1, Ha a = none ∧ a ≠ D1) (nd1 : as1.Nodup) (o1 : ∃ o, Hb D1 = some o) (q1 : ∀ a ∈ as1, ∃ o, Hb a = some o) (n2 : Hb D2 = none) (o2 : ∃ o, Hc D2 = some o) (n3 : Hc D3 = none) (f3 : ∀ a ∈ as3, Hc a = none ∧ a ≠ D3) (nd3 : as3.Nodup)
    (h0 : Hd p = some (.ins A.c_SiteCopy dx (fl_SiteCopy (.ref D1) (.ref D2) (.ref D3)))) (h1 : Hd D1 = some (.lst (as1.map .ref))) (h2 : Hd D2 = some (.lst ((List.range (n + 1)).map fun j => .int ((plc l j).acknowledged : Int)))) (h3 : Hd D3 = some (.lst (as3.map .ref)))
    (l1 : as1.length = n + 1) (l3 : as3.length = n + 1) (c1 : ∀ j : Nat, j ≤ n → Hd (as1.getD j 0) = some (.lst ((ps (.sent j)).map .ref))) (c3 : ∀ j : Nat, j ≤ n → Hd (as3.getD j 0) = some (.lst ((ps (.recv j)).map .ref)))
    (pay : ∀ r, r.ok n → Pays Hd (ps r) (msgs l r)) (out : ∀ r r', r.ok n → r'.ok n → (mkG p D1 D2 D3 as1 as3 dx ps).ad r ∉ ps r') : CopyAt A Hd n (mkG p D1 D2 D3 as1 as3 dx ps) l := by
  refine ⟨hl, ?_, ?_, pay, out⟩
  · intro r hr
    cases r with
    | self => exact h0
    | sentL =>
      show Hd D1 = some (.lst ((List.range (n + 1)).map fun j => .ref (as1.getD j 0)))
      rw [range_getD l1 V.ref]
      exact h1
    | ackL => exact h2
    | recL =>
      show Hd D3 = some (.lst ((List.range (n + 1)).map fun j => .ref (as3.getD j 0)))
      rw [range_getD l3 V.ref]
      exact h3
    | sent j => exact c1 j hr
    | recv j => exact c3 j hr
  · refine inj_of_stage (ok := fun r => r.ok n) (ad := (mkG p D1 D2 D3 as1 as3 dx ps).ad) (fun k => match k with
      | 0 => fun _ => none
      | 1 => Ha
      | 2 => Hb
      | 3 => Hc
      | _ => Hd) ?_ (fun r => match r with
      | .self => 0
      | .sentL => 1
      | .sent _ => 1
      | .ackL => 2
      | .recL => 3
      | .recv _ => 3) ?_ ?_ ?_
    · intro i a o h
      match i, h with
      | 0, h => cases h
      | 1, h => exact m1 a o h
      | 2, h => exact m2 a o h
      | 3, h => exact m3 a o h
      | i + 4, h => exact ⟨o, h⟩
    · intro r hr
      cases r with
      | self => rfl
      | sentL => exact n1
      | ackL => exact n2
      | recL => exact n3
      | sent j => exact (f1 _ (getD_mem (by rw [l1]; exact Nat.lt_succ_of_le hr))).1
      | recv j => exact (f3 _ (getD_mem (by rw [l3]; exact Nat.lt_succ_of_le hr))).1
    · intro r hr
      cases r with
      | self => exact a0
      | sentL => exact o1
      | ackL => exact o2
      | recL => exact ⟨_, h3⟩
      | sent j => exact q1 _ (getD_mem (by rw [l1]; exact Nat.lt_succ_of_le hr))
      | recv j => exact ⟨_, c3 j hr⟩
    · intro r r' hr hr' hs e
      cases r <;> cases r' <;> first | rfl | (simp at hs; done) | skip
      · exact absurd e.symm (f1 _ (getD_mem (by rw [l1]; exact Nat.lt_succ_of_le hr'))).2
      · exact absurd e.symm (f3 _ (getD_mem (by rw [l3]; exact Nat.lt_succ_of_le hr'))).2
      · exact absurd e (f1 _ (getD_mem (by rw [l1]; exact Nat.lt_succ_of_le hr))).2
      · have := nodup_getD nd1 (by rw [l1]; exact Nat.lt_succ_of_le hr) (by rw [l1]; exact Nat.lt_succ_of_le hr') e
        rw [this]
      · exact absurd e (f3 _ (getD_mem (by rw [l3]; exact Nat.lt_succ_of_le hr))).2
      · have := nodup_getD nd3 (by rw [l3]; exact Nat.lt_succ_of_le hr) (by rw [l3]; exact Nat.lt_succ_of_le hr') e
        rw [this]
/-- an expression that makes a copy -/
def EvC (A : Ads) (te : TE) (σ : L2.St) (H : Hp) (n : Nat) (l : List Vbxlac.Link) (ps : CR → List Addr) : Prop :=
  ∀ H1, Ex H H1 → ∀ Q : VK, (∀ g H2, Ex H1 H2 → CopyAt A H2 n g l → (∀ r, r.ok n → H1 (g.ad r) = none) → g.ps = ps → Q (.ref (g.ad .self)) H2) → te σ H1 Q
def links0 (n : Nat) : List Vbxlac.Link := List.replicate n Vbxlac.emptyLink
theorem plc_links0 (n j : Nat) : plc (links0 n) j = Vbxlac.emptyLink := by
  unfold plc links0 Vbxlac.linkAt
  split
  · rfl
  · rw [List.getElem?_replicate]
    split <;> rfl
theorem msgs_links0 (n : Nat) (r : CR) : msgs (links0 n) r = [] := by
  cases r <;> first | rfl | (unfold msgs; simp only [plc_links0]; rfl)
def sp_SiteCopy_init (K : PySem.W.Frag) (A : Ads) : Sp := fun vs H Q _ => ∃ (p dx : Addr) (n : Nat), vs = [.ref p, .int (n : Int)] ∧ n ≤ 4 ∧ H p = some (.ins A.c_SiteCopy dx []) ∧
  ∀ g H2, g.ad .self = p → CopyAt A H2 n g (links0 n) → (∀ r, r.ok n → r ≠ .self → H (g.ad r) = none) → g.ps = (fun _ => []) → (∀ b o, H b = some o → b ≠ p → H2 b = some o) → Q .non H2
theorem len_SiteCopy_init : ∀ vs H Q E, sp_SiteCopy_init K A vs H Q E → vs.length = (["self", "site_count"] : List Str).length := by
  rintro vs H Q E ⟨p, dx, n, rfl, _⟩
  rfl
def t_SiteCopy_init (K : PySem.W.Frag) (A : Ads) : TS :=
 tSeq (sFld K (tVar 0) (tLc (iRng1 (tCons (tOp rPlus (tVar 1) (tC (.int 1))) (tNil))) (gName 2) (tYes) (tLst (tNil)) [2]) "sent")
 (tSeq (sFld K (tVar 0) (tLc (iRng1 (tCons (tOp rPlus (tVar 1) (tC (.int 1))) (tNil))) (gName 2) (tYes) (tC (.int 0)) [2]) "acknowledged")
 (sFld K (tVar 0) (tLc (iRng1 (tCons (tOp rPlus (tVar 1) (tC (.int 1))) (tNil))) (gName 2) (tYes) (tLst (tNil)) [2]) "received"))
theorem pure_SiteCopy_init (T : Txt K mg A) (vs : List V) (H : Hp) (Q : VK) (E : XK) (h : sp_SiteCopy_init K A vs H Q E) : t_SiteCopy_init K A { nx := fun _ H' => Q .non H', rt := Q } (start ["self", "site_count", "place"] vs) H := by
  obtain ⟨p, dx, n, rfl, hn, hp, k⟩ := h
  have cnt : ∀ {H' : Hp}, EvA (tCons (tOp rPlus (tVar 1) (tC (.int 1))) tNil) [some (.ref p), some (.int (n : Int)), none] H' [.int ((n + 1 : Nat) : Int)] := fun {H'} => ea_cons (ev_op (ev_var rfl) ev_c rv_I0) ea_nil
  -- self.sent = [[] ..]
  refine q_sFld (ef_range (j := 2) (vs := [2]) cnt (by omega) (fun _ => rfl) H (Ex.refl H) _ fun D1 as1 H1 N1 => ?_)
  have hp1 := N1.ex _ _ hp
  have np : ∀ {a : Addr}, H a = none → a ≠ p := fun h z => by rw [z, hp] at h; cases h
  refine ⟨_, rfl, p, _, dx, [], rfl, hp1, T.cl_SiteCopy, T.n_SiteCopy_sent, by decide, ?_⟩
  -- self.acknowledged = [0 ..]
  have q2 := el_lcR1 (te := tC (.int 0)) (t := tYes) (j := 2) (vs := [2]) (σ := [some (.ref p), some (.int (n : Int)), none]) (H := upd H1 p (.ins A.c_SiteCopy dx (putF "sent" (.ref D1) []))) (n := ((n + 1 : Nat) : Int)) (fun _ => true) (fun _ => .int 0) cnt (by omega) (fun _ => rfl) (fun i H1 e hi => et_yes) (fun i H1 e hi _ => ev_c)
  rw [given_all] at q2
  refine q_sFld (q2 _ (Ex.refl _) _ fun D2 H3 n2 e3 h3 => ?_)
  refine ⟨_, rfl, p, _, dx, _, rfl, e3 _ _ upd_same, T.cl_SiteCopy, T.n_SiteCopy_acknowledged, Nat.lt_of_le_of_lt (length_putF _ _ _) (by decide), ?_⟩
  -- self.received = [[] ..]
  refine s_sFld (ef_range (j := 2) (vs := [2]) cnt (by omega) (fun _ => rfl) _ (Ex.refl _) _ fun D3 as3 H6 N3 => ?_)
  refine ⟨_, rfl, p, _, dx, _, rfl, N3.ex _ _ upd_same, T.cl_SiteCopy, T.n_SiteCopy_received, Nat.lt_of_le_of_lt (length_putF _ _ _) (Nat.lt_of_le_of_lt (Nat.succ_le_succ (length_putF _ _ _)) (by decide)), ?_⟩
  show Q .non (upd H6 p _)
  rw [fl_SiteCopy_new]
  have nD2 : D2 ≠ p := fun z => by rw [z, upd_same] at n2; cases n2
  have h1D2 : H1 D2 = none := by rw [upd_ne nD2] at n2; exact n2
  have k1 : ∀ b o, H1 b = some o → b ≠ p → (upd H6 p (.ins A.c_SiteCopy dx (fl_SiteCopy (.ref D1) (.ref D2) (.ref D3)))) b = some o := fun b o hb nb => by
    rw [upd_ne nb]
    refine N3.ex _ _ ?_
    rw [upd_ne nb]
    refine e3 _ _ ?_
    rw [upd_ne nb]
    exact hb
  have k3 : ∀ b o, H3 b = some o → b ≠ p → (upd H6 p (.ins A.c_SiteCopy dx (fl_SiteCopy (.ref D1) (.ref D2) (.ref D3)))) b = some o := fun b o hb nb => by
    rw [upd_ne nb]
    refine N3.ex _ _ ?_
    rw [upd_ne nb]
    exact hb
  have nD3 : D3 ≠ p := fun z => by have := N3.nD; rw [z, upd_same] at this; cases this
  have nas3 : ∀ a ∈ as3, a ≠ p := fun a ha z => by have := (N3.fr a ha).1; rw [z, upd_same] at this; cases this
  have lift3 : ∀ {a : Addr}, a ≠ p → (upd H3 p (.ins A.c_SiteCopy dx (putF "acknowledged" (.ref D2) (putF "sent" (.ref D1) [])))) a = none → H a = none := fun {a} na h => by
    rw [upd_ne na] at h
    have h2 := fresh_back e3 h
    rw [upd_ne na] at h2
    exact fresh_back N1.ex h2
  have l1 : as1.length = n + 1 := by rw [N1.len, List.length_replicate]
  have l3 : as3.length = n + 1 := by rw [N3.len, List.length_replicate]
  have rep : ∀ {j m : Nat}, j < m → (List.replicate m ([] : List V))[j]? = some [] := fun {j m} h => by rw [List.getElem?_replicate, if_pos h]
  refine k (mkG p D1 D2 D3 as1 as3 dx fun _ => []) _ rfl ?_ ?_ rfl (fun b o hb nb => k1 b o (N1.ex _ _ hb) nb)
  · refine copy_mk (Ha := H) (Hb := upd H1 p (.ins A.c_SiteCopy dx (putF "sent" (.ref D1) []))) (Hc := upd H3 p (.ins A.c_SiteCopy dx (putF "acknowledged" (.ref D2) (putF "sent" (.ref D1) [])))) (by simp [links0]) ?_ ?_ ?_ ⟨_, hp⟩ N1.nD N1.fr N1.nd ?_ ?_ n2 ?_ N3.nD N3.fr N3.nd upd_same (k1 _ _ N1.lst (np N1.nD)) ?_ ?_ l1 l3 ?_ ?_ ?_ ?_
    · intro a o h
      by_cases e : a = p
      · subst e; exact ⟨_, upd_same⟩
      · exact ⟨o, by rw [upd_ne e]; exact N1.ex _ _ h⟩
    · intro a o h
      by_cases e : a = p
      · subst e; exact ⟨_, upd_same⟩
      · exact ⟨o, by rw [upd_ne e]; exact e3 _ _ h⟩
    · intro a o h
      by_cases e : a = p
      · subst e; exact ⟨_, upd_same⟩
      · exact ⟨o, by rw [upd_ne e]; exact N3.ex _ _ h⟩
    · exact ⟨_, by rw [upd_ne (np N1.nD)]; exact N1.lst⟩
    · intro a ha
      obtain ⟨j, hj⟩ := List.mem_iff_getElem?.mp ha
      have jl := (List.getElem?_eq_some_iff.mp hj).1
      exact ⟨_, by rw [upd_ne (np (N1.fr a ha).1)]; exact N1.here j a [] hj (rep (by omega))⟩
    · exact ⟨_, by rw [upd_ne nD2]; exact h3⟩
    · rw [k3 _ _ h3 nD2]
      congr 2
      apply List.map_congr_left
      intro j _
      rw [plc_links0]
      rfl
    · rw [upd_ne nD3]
      exact N3.lst
    · intro j hj
      exact k1 _ _ (N1.here j _ [] (getD_here (by omega)) (rep (by omega))) (np (N1.fr _ (getD_mem (by omega))).1)
    · intro j hj
      rw [upd_ne (nas3 _ (getD_mem (by omega)))]
      exact N3.here j _ [] (getD_here (by omega)) (rep (by omega))
    · intro r hr
      rw [msgs_links0]
      exact Pays.nil
    · intro r r' _ _ z
      cases z
  · intro r hr hne
    cases r with
    | self => exact absurd rfl hne
    | sentL => exact N1.nD
    | ackL => exact fresh_back N1.ex h1D2
    | recL => exact lift3 nD3 N3.nD
    | sent j => exact (N1.fr _ (getD_mem (by rw [l1]; exact Nat.lt_succ_of_le hr))).1
    | recv j => exact lift3 (nas3 _ (getD_mem (by rw [l3]; exact Nat.lt_succ_of_le hr))) (N3.fr _ (getD_mem (by rw [l3]; exact Nat.lt_succ_of_le hr))).1
theorem ec_make {σ : L2.St} {H : Hp} {ta : TE} {n : Nat} (h : Ev ta σ H (.int (n : Int))) (hn : n ≤ 4) : EvC A (tMake A.c_SiteCopy (sp_SiteCopy_init K A) [] E0 (tCons ta tNil)) σ H n (links0 n) (fun _ => []) := fun H1 e Q q =>
  h H1 e _ fun H2 e2 x dx nx nd ne => by
    refine ⟨x, dx, n, rfl, hn, upd_same, fun g H3 gx hc fr ps keep => ⟨rfl, ?_⟩⟩
    have e3 : Ex H2 H3 := fun b o hb => keep b o (by rw [upd_ne (ne_of_none hb nx), upd_ne (ne_of_none hb nd)]; exact hb) (ne_of_none hb nx)
    rw [← gx]
    refine q g H3 (e2.trans e3) hc (fun r hr => ?_) ps
    by_cases z : r = .self
    · rw [z, gx]
      exact fresh_back e2 nx
    · have h4 := fr r hr z
      refine fresh_back e2 ?_
      have h5 : g.ad r ≠ x := fun y => by rw [y, upd_same] at h4; cases h4
      rw [upd_ne h5] at h4
      have h6 : g.ad r ≠ dx := fun y => by rw [y, upd_same] at h4; cases h4
      rw [upd_ne h6] at h4
      exact h4
/-! ### a copy copied -/
def sp_SiteCopy_copied (K : PySem.W.Frag) (A : Ads) : Sp := fun vs H Q _ => ∃ (n : Nat) (g : CG) (l : List Vbxlac.Link), vs = [.ref (g.ad .self)] ∧ CopyAt A H n g l ∧ n ≤ 4 ∧
  ∀ g' H2, Ex H H2 → CopyAt A H2 n g' l → (∀ r, r.ok n → H (g'.ad r) = none) → g'.ps = g.ps → Q (.ref (g'.ad .self)) H2
theorem len_SiteCopy_copied : ∀ vs H Q E, sp_SiteCopy_copied K A vs H Q E → vs.length = (["self"] : List Str).length := by
  rintro vs H Q E ⟨n, g, l, rfl, _⟩
  rfl
def t_SiteCopy_copied (K : PySem.W.Frag) (A : Ads) : TS :=
 tSeq (tAsg (tMake A.c_SiteCopy (sp_SiteCopy_init K A) [] E0 (tCons (tC (.int 0)) (tNil))) (gName 1))
 (tSeq (sFld K (tVar 1) (tLc (iList K (tFld K (tVar 0) "sent")) (gName 2) (tYes) (tCB (rListS K) (tCons (tVar 2) (tNil))) [2]) "sent")
 (tSeq (sFld K (tVar 1) (tCB (rListS K) (tCons (tFld K (tVar 0) "acknowledged") (tNil))) "acknowledged")
 (tSeq (sFld K (tVar 1) (tLc (iList K (tFld K (tVar 0) "received")) (gName 2) (tYes) (tCB (rListS K) (tCons (tVar 2) (tNil))) [2]) "received")
 (tRet (tVar 1)))))
theorem pays_known {H : Hp} {as : List Addr} {ms : List Vbxlac.Bytes} (h : Pays H as ms) {a : Addr} (ha : a ∈ as) : ∃ o, H a = some o := by
  obtain ⟨i, hi⟩ := List.mem_iff_getElem?.mp ha
  have il := (List.getElem?_eq_some_iff.mp hi).1
  exact ⟨_, h.2 i a _ hi (List.getElem?_eq_getElem (by rw [← h.1]; exact il))⟩
theorem pure_SiteCopy_copied (T : Txt K mg A) (vs : List V) (H : Hp) (Q : VK) (E : XK) (h : sp_SiteCopy_copied K A vs H Q E) : t_SiteCopy_copied K A { nx := fun _ H' => Q .non H', rt := Q } (start ["self", "twin", "messages"] vs) H := by
  obtain ⟨n, g, l, rfl, hc, hn, k⟩ := h
  -- twin = SiteCopy(0)
  refine q_tAsg (ec_make (n := 0) ev_c (by omega) H (Ex.refl H) _ fun g0 H0 e0 hc0 fr0 _ => ?_)
  have hx : H0 (g0.ad .self) = some (.ins A.c_SiteCopy g0.dx (fl_SiteCopy (.ref (g0.ad .sentL)) (.ref (g0.ad .ackL)) (.ref (g0.ad .recL)))) := hc0.here .self trivial
  have nx : H (g0.ad .self) = none := fr0 .self trivial
  generalize g0.ad .self = p at hx nx ⊢
  generalize g0.dx = dx at hx
  generalize V.ref (g0.ad .sentL) = v1 at hx
  generalize V.ref (g0.ad .ackL) = v2 at hx
  generalize V.ref (g0.ad .recL) = v3 at hx
  have pk : ∀ {b : Addr} {o : HO}, H b = some o → b ≠ p := fun hb => ne_of_none hb nx
  -- twin.sent = ..
  have hcA : CopyAt A H0 n g l := hc.ex e0
  refine q_sFld (ef_list (j := 2) (vs := [2]) (cs := (List.range (n + 1)).map fun j => (g.ps (.sent j)).map V.ref) (ev_sent T hcA (ev_var rfl)) (sq_of (hcA.here .sentL trivial)) (by simp; omega) (by simp) (fun _ => rfl) (fun _ => rfl) (fun i x c hx hcs => ?_) H0 (Ex.refl H0) _ fun D1 as1 H1 N1 => ?_)
  · obtain ⟨hi, rfl⟩ := at_range hx
    obtain ⟨_, rfl⟩ := at_range hcs
    exact ⟨_, rfl, sq_sent hcA (by omega)⟩
  refine ⟨_, rfl, p, _, dx, _, rfl, N1.ex _ _ hx, T.cl_SiteCopy, T.n_SiteCopy_sent, fl_SiteCopy_few, ?_⟩
  rw [fl_SiteCopy_put_sent]
  -- twin.acknowledged = list(..)
  have ex1 : Ex H (upd H1 p (.ins A.c_SiteCopy dx (fl_SiteCopy (.ref D1) v2 v3))) := Ex.mut (e0.trans N1.ex) nx
  have hcB := hc.ex ex1
  refine q_sFld (el_list (ev_acknowledged T hcB (ev_var rfl)) (sq_of (hcB.here .ackL trivial)) _ (Ex.refl _) _ fun D2 H3 n2 e3 h3 => ?_)
  refine ⟨_, rfl, p, _, dx, _, rfl, e3 _ _ upd_same, T.cl_SiteCopy, T.n_SiteCopy_acknowledged, fl_SiteCopy_few, ?_⟩
  rw [fl_SiteCopy_put_acknowledged]
  -- twin.received = ..
  have ex3 : Ex H (upd H3 p (.ins A.c_SiteCopy dx (fl_SiteCopy (.ref D1) (.ref D2) v3))) := Ex.mut (ex1.trans e3) nx
  have hcC := hc.ex ex3
  refine q_sFld (ef_list (j := 2) (vs := [2]) (cs := (List.range (n + 1)).map fun j => (g.ps (.recv j)).map V.ref) (ev_received T hcC (ev_var rfl)) (sq_of (hcC.here .recL trivial)) (by simp; omega) (by simp) (fun _ => rfl) (fun _ => rfl) (fun i x c hx hcs => ?_) _ (Ex.refl _) _ fun D3 as3 H6 N3 => ?_)
  · obtain ⟨hi, rfl⟩ := at_range hx
    obtain ⟨_, rfl⟩ := at_range hcs
    exact ⟨_, rfl, sq_recv hcC (by omega)⟩
  refine ⟨_, rfl, p, _, dx, _, rfl, N3.ex _ _ upd_same, T.cl_SiteCopy, T.n_SiteCopy_received, fl_SiteCopy_few, ?_⟩
  rw [fl_SiteCopy_put_received]
  have ex6 : Ex H (upd H6 p (.ins A.c_SiteCopy dx (fl_SiteCopy (.ref D1) (.ref D2) (.ref D3)))) := Ex.mut (ex3.trans N3.ex) nx
  have npA : ∀ {a : Addr}, H0 a = none → a ≠ p := fun h z => by rw [z, hx] at h; cases h
  have nD2 : D2 ≠ p := fun z => by rw [z, upd_same] at n2; cases n2
  have nD3 : D3 ≠ p := fun z => by have := N3.nD; rw [z, upd_same] at this; cases this
  have nas3 : ∀ a ∈ as3, a ≠ p := fun a ha z => by have := (N3.fr a ha).1; rw [z, upd_same] at this; cases this
  have k1 : ∀ b o, H1 b = some o → b ≠ p → (upd H6 p (.ins A.c_SiteCopy dx (fl_SiteCopy (.ref D1) (.ref D2) (.ref D3)))) b = some o := fun b o hb nb => by
    rw [upd_ne nb]
    refine N3.ex _ _ ?_
    rw [upd_ne nb]
    refine e3 _ _ ?_
    rw [upd_ne nb]
    exact hb
  have k3 : ∀ b o, H3 b = some o → b ≠ p → (upd H6 p (.ins A.c_SiteCopy dx (fl_SiteCopy (.ref D1) (.ref D2) (.ref D3)))) b = some o := fun b o hb nb => by
    rw [upd_ne nb]
    refine N3.ex _ _ ?_
    rw [upd_ne nb]
    exact hb
  have l1 : as1.length = n + 1 := by rw [N1.len]; simp
  have l3 : as3.length = n + 1 := by rw [N3.len]; simp
  have fresh : ∀ r, r.ok n → H ((mkG p D1 D2 D3 as1 as3 dx g.ps).ad r) = none := by
    intro r hr
    cases r with
    | self => exact nx
    | sentL => exact fresh_back e0 N1.nD
    | ackL => exact fresh_back ex1 n2
    | recL => exact fresh_back ex3 N3.nD
    | sent j => exact fresh_back e0 (N1.fr _ (getD_mem (by rw [l1]; exact Nat.lt_succ_of_le hr))).1
    | recv j => exact fresh_back ex3 (N3.fr _ (getD_mem (by rw [l3]; exact Nat.lt_succ_of_le hr))).1
  refine ⟨_, rfl, k (mkG p D1 D2 D3 as1 as3 dx g.ps) _ ex6 ?_ fresh rfl⟩
  refine copy_mk (Ha := H0) (Hb := upd H1 p (.ins A.c_SiteCopy dx (fl_SiteCopy (.ref D1) v2 v3))) (Hc := upd H3 p (.ins A.c_SiteCopy dx (fl_SiteCopy (.ref D1) (.ref D2) v3))) hc.len ?_ ?_ ?_ ⟨_, hx⟩ N1.nD N1.fr N1.nd ?_ ?_ n2 ?_ N3.nD N3.fr N3.nd upd_same (k1 _ _ N1.lst (npA N1.nD)) (k3 _ _ h3 nD2) ?_ l1 l3 ?_ ?_ ?_ ?_
  · intro a o h
    by_cases e : a = p
    · subst e; exact ⟨_, upd_same⟩
    · exact ⟨o, by rw [upd_ne e]; exact N1.ex _ _ h⟩
  · intro a o h
    by_cases e : a = p
    · subst e; exact ⟨_, upd_same⟩
    · exact ⟨o, by rw [upd_ne e]; exact e3 _ _ h⟩
  · intro a o h
    by_cases e : a = p
    · subst e; exact ⟨_, upd_same⟩
    · exact ⟨o, by rw [upd_ne e]; exact N3.ex _ _ h⟩
  · exact ⟨_, by rw [upd_ne (npA N1.nD)]; exact N1.lst⟩
  · intro a ha
    obtain ⟨j, hj⟩ := List.mem_iff_getElem?.mp ha
    have jl := (List.getElem?_eq_some_iff.mp hj).1
    exact ⟨_, by rw [upd_ne (npA (N1.fr a ha).1)]; exact N1.here j a _ hj (range_at (by omega))⟩
  · exact ⟨_, by rw [upd_ne nD2]; exact h3⟩
  · rw [upd_ne nD3]
    exact N3.lst
  · intro j hj
    exact k1 _ _ (N1.here j _ _ (getD_here (by omega)) (range_at (by omega))) (npA (N1.fr _ (getD_mem (by omega))).1)
  · intro j hj
    rw [upd_ne (nas3 _ (getD_mem (by omega)))]
    exact N3.here j _ _ (getD_here (by omega)) (range_at (by omega))
  · exact fun r hr => (hc.pay r hr).ex fun a _ o ho => ex6 a o ho
  · intro r r' hr hr' z
    obtain ⟨o, ho⟩ := pays_known (hc.pay r' hr') z
    rw [fresh r hr] at ho
    cases ho
theorem ec_copied {σ : L2.St} {H : Hp} {ta : TE} {n : Nat} {g : CG} {l : List Vbxlac.Link} (h : Ev ta σ H (.ref (g.ad .self))) (hc : CopyAt A H n g l) (hn : n ≤ 4) : EvC A (tMeth A.c_SiteCopy "copied" (sp_SiteCopy_copied K A) [] E0 ta tNil) σ H n l g.ps := fun H1 e Q q =>
  h H1 e _ fun H2 e2 => ⟨g.ad .self, g.dx, _, rfl, (hc.ex (e.trans e2)).here .self trivial, fl_SiteCopy_m_copied, n, g, l, rfl, hc.ex (e.trans e2), hn, fun g' H3 e3 hc' fr ps => q g' H3 (e2.trans e3) hc' (fun r hr => fresh_back e2 (fr r hr)) ps⟩
end Sur
namespace Sur
open PySem PySem.Spec PyProof.Rows L2 Evl
variable {P : Program} {w : World} {K : PySem.W.Frag} {mg : Str → Option Value} {base : Heap} {A : Ads} {W : Addr → Prop}
/-! ## A site at risk, synced, crashed -/
theorem sum_range_le : ∀ (m : Nat) (f g : Nat → Nat), (∀ j, j < m → f j ≤ g j) → ((List.range m).map f).sum ≤ ((List.range m).map g).sum
  | 0, _, _, _ => Nat.le_refl _
  | m + 1, f, g, h => by
    rw [List.range_succ, List.map_append, List.map_append, List.sum_append, List.sum_append]
    have := sum_range_le m f g fun j hj => h j (by omega)
    have := h m (by omega)
    simp only [List.map_cons, List.map_nil, List.sum_cons, List.sum_nil]
    omega
theorem sum_plcN {n : Nat} {l : List Vbxlac.Link} (hl : l.length = n) (f : Vbxlac.Link → Nat) (h0 : f Vbxlac.emptyLink = 0) : (l.map f).sum = ((List.range (n + 1)).map fun j => f (plc l j)).sum := by
  rw [plc_range hl f, List.sum_cons, h0]
  omega
theorem sum_links_le {n : Nat} {l m : List Vbxlac.Link} (hl : l.length = n) (hm : m.length = n) (f : Vbxlac.Link → Nat) (h0 : f Vbxlac.emptyLink = 0) (h : ∀ j, 1 ≤ j → f (Vbxlac.linkAt l j) ≤ f (Vbxlac.linkAt m j)) : (l.map f).sum ≤ (m.map f).sum := by
  rw [sum_plcN hl f h0, sum_plcN hm f h0]
  refine sum_range_le _ _ _ fun j _ => ?_
  unfold plc
  by_cases hj : j = 0
  · rw [if_pos hj, if_pos hj]
    exact Nat.le_refl _
  · rw [if_neg hj, if_neg hj]
    exact h j (by omega)
theorem Sites.links {s : Vbxlac.State} (h : Sites s) : ∀ i k, i < s.sites.length → (linksOf s i k).length = s.sites.length := fun i k hi => by
  unfold linksOf
  split
  · exact h.len_durable (a := i + 1) (by simpa using hi)
  · exact h.len_present (a := i + 1) (by simpa using hi)
theorem Sites.counts {s : Vbxlac.State} (h : Sites s) {i : Nat} (hi : i < s.sites.length) : Vbxlac.sentCount (linksOf s i true) ≤ Vbxlac.sentCount (linksOf s i false) ∧ Vbxlac.receivedCount (linksOf s i true) ≤ Vbxlac.receivedCount (linksOf s i false) ∧
    Vbxlac.acknowledgedSum (linksOf s i true) ≤ Vbxlac.acknowledgedSum (linksOf s i false) :=
  ⟨sum_links_le (h.links i true hi) (h.links i false hi) (fun x => x.sent.length) rfl fun j _ => (h.up (i + 1) j).sent, sum_links_le (h.links i true hi) (h.links i false hi) (fun x => x.received.length) rfl fun j _ => (h.up (i + 1) j).rcv,
    sum_links_le (h.links i true hi) (h.links i false hi) (fun x => x.acknowledged) rfl fun j _ => (h.up (i + 1) j).ack⟩
/-- the three differences -/
def riskOf (s : Vbxlac.State) (i : Nat) : List Int := (Vbxlac.notDurable (Vbxlac.siteAt s (i + 1))).map Vbxlac.toInt
def ansV (l : List Int) : List V := l.map V.int
def sp_Site_at_risk (K : PySem.W.Frag) (A : Ads) : Sp := fun vs H Q _ => ∃ (G : NG) (s : Vbxlac.State) (i : Nat), vs = [.ref (G.ad (.site i))] ∧ NetAt A H G s ∧ Sites s ∧ i < s.sites.length ∧
  ∀ q H2, H q = none → Ex H H2 → H2 q = some (.lst (ansV (riskOf s i))) → Q (.ref q) H2
theorem len_Site_at_risk : ∀ vs H Q E, sp_Site_at_risk K A vs H Q E → vs.length = (["self"] : List Str).length := by
  rintro vs H Q E ⟨G, s, i, rfl, _⟩
  rfl
def t_Site_at_risk (K : PySem.W.Frag) (A : Ads) : TS :=
 tRet (tLst (tCons (tOp rMinus (tMeth A.c_SiteCopy "sent_count" (sp_SiteCopy_sent_count K A) [] E0 (tFld K (tVar 0) "present") tNil) (tMeth A.c_SiteCopy "sent_count" (sp_SiteCopy_sent_count K A) [] E0 (tFld K (tVar 0) "durable") tNil)) (tCons (tOp rMinus (tMeth A.c_SiteCopy "received_count" (sp_SiteCopy_received_count K A) [] E0 (tFld K (tVar 0) "present") tNil) (tMeth A.c_SiteCopy "received_count" (sp_SiteCopy_received_count K A) [] E0 (tFld K (tVar 0) "durable") tNil)) (tCons (tOp rMinus (tMeth A.c_SiteCopy "acknowledged_sum" (sp_SiteCopy_acknowledged_sum K A) [] E0 (tFld K (tVar 0) "present") tNil) (tMeth A.c_SiteCopy "acknowledged_sum" (sp_SiteCopy_acknowledged_sum K A) [] E0 (tFld K (tVar 0) "durable") tNil)) (tNil)))))
theorem pure_Site_at_risk (T : Txt K mg A) (vs : List V) (H : Hp) (Q : VK) (E : XK) (h : sp_Site_at_risk K A vs H Q E) : t_Site_at_risk K A { nx := fun _ H' => Q .non H', rt := Q } (start ["self"] vs) H := by
  obtain ⟨G, s, i, rfl, hN, hS, hi, k⟩ := h
  have h4 := hS.few
  have cp := hN.copy hS.links (k := false) hi
  have cd := hN.copy hS.links (k := true) hi
  obtain ⟨c1, c2, c3⟩ := hS.counts hi
  have pr : ∀ {te : TE}, Ev te [some (.ref (G.ad (.site i)))] H (.ref (G.ad (.site i))) → Ev (tFld K te "present") [some (.ref (G.ad (.site i)))] H (.ref ((G.cg i false).ad .self)) := fun h => ev_present T hN hi h
  have du : ∀ {te : TE}, Ev te [some (.ref (G.ad (.site i)))] H (.ref (G.ad (.site i))) → Ev (tFld K te "durable") [some (.ref (G.ad (.site i)))] H (.ref ((G.cg i true).ad .self)) := fun h => ev_durable T hN hi h
  refine s_retL (xs := ansV (riskOf s i)) (el_lst (ea_cons (ev_is (ev_op (ev_meth0 (pr (ev_var rfl)) (cp.here .self trivial) fl_SiteCopy_m_sent_count (sv_sent_count cp h4)) (ev_meth0 (du (ev_var rfl)) (cd.here .self trivial) fl_SiteCopy_m_sent_count (sv_sent_count cd h4)) rv_I0) ?_)
    (ea_cons (ev_is (ev_op (ev_meth0 (pr (ev_var rfl)) (cp.here .self trivial) fl_SiteCopy_m_received_count (sv_received_count cp h4)) (ev_meth0 (du (ev_var rfl)) (cd.here .self trivial) fl_SiteCopy_m_received_count (sv_received_count cd h4)) rv_I0) ?_)
    (ea_cons (ev_is (ev_op (ev_meth0 (pr (ev_var rfl)) (cp.here .self trivial) fl_SiteCopy_m_acknowledged_sum (sv_acknowledged_sum cp h4)) (ev_meth0 (du (ev_var rfl)) (cd.here .self trivial) fl_SiteCopy_m_acknowledged_sum (sv_acknowledged_sum cd h4)) rv_I0) ?_) ea_nil))) (by show 3 ≤ 100000; decide)) fun q H2 nq e2 h2 => k q H2 nq e2 h2
  · show V.int _ = V.int (((Vbxlac.sentCount (linksOf s i false) - Vbxlac.sentCount (linksOf s i true) : Nat)) : Int)
    congr 1
    omega
  · show V.int _ = V.int (((Vbxlac.receivedCount (linksOf s i false) - Vbxlac.receivedCount (linksOf s i true) : Nat)) : Int)
    congr 1
    omega
  · show V.int _ = V.int (((Vbxlac.acknowledgedSum (linksOf s i false) - Vbxlac.acknowledgedSum (linksOf s i true) : Nat)) : Int)
    congr 1
    omega
theorem el_at_risk (T : Txt K mg A) {σ : L2.St} {H : Hp} {te : TE} {G : NG} {s : Vbxlac.State} {i : Nat} (hN : NetAt A H G s) (hS : Sites s) (hi : i < s.sites.length) (h : Ev te σ H (.ref (G.ad (.site i)))) :
    EvL (tMeth A.c_Site "at_risk" (sp_Site_at_risk K A) [] E0 te tNil) σ H (ansV (riskOf s i)) :=
  el_meth0 h (hN.here (.site i) hi) fl_Site_m_at_risk fun H1 e Q q E => ⟨G, s, i, rfl, hN.ex e, hS, hi, q⟩
/-- one copy of one site put anew -/
def NG.recopy (G : NG) (i : Nat) (k : Bool) (g : CG) : NG :=
  ⟨fun r => match r with
    | .cp i' k' c => if i' = i ∧ k' = k then g.ad c else G.ad (.cp i' k' c)
    | .net => G.ad .net
    | .sitesL => G.ad .sitesL
    | .wiresL => G.ad .wiresL
    | .site j => G.ad (.site j)
    | .wire j => G.ad (.wire j)
    | .oct j => G.ad (.oct j),
   fun r => match r with
    | .cp i' k' c => if i' = i ∧ k' = k then g.dx else G.dx (.cp i' k' c)
    | .net => G.dx .net
    | .sitesL => G.dx .sitesL
    | .wiresL => G.dx .wiresL
    | .site j => G.dx (.site j)
    | .wire j => G.dx (.wire j)
    | .oct j => G.dx (.oct j),
   fun i' k' c => if i' = i ∧ k' = k then g.ps c else G.ps i' k' c⟩
theorem NG.recopy_cg (G : NG) (i : Nat) (k : Bool) (g : CG) : (G.recopy i k g).cg i k = g := by
  unfold NG.cg NG.recopy
  simp
theorem NG.recopy_cg' (G : NG) (i : Nat) (k : Bool) (g : CG) {i' : Nat} {k' : Bool} (h : ¬ (i' = i ∧ k' = k)) : (G.recopy i k g).cg i' k' = G.cg i' k' := by
  unfold NG.cg NG.recopy
  simp [h]
theorem Step.recopy {H H2 : Hp} {G : NG} {s s' : Vbxlac.State} {i : Nat} {k k0 : Bool} {g : CG} {o : HO} (h : NetAt A H G s) (e : Ex H H2) (hi : i < s.sites.length) (hc : CopyAt A H2 s.sites.length g (linksOf s' i k)) (fr : ∀ r, r.ok s.sites.length → H (g.ad r) = none) (hps : g.ps = G.ps i k0)
    (hn : s'.sites.length = s.sites.length) (hw : s'.wires = s.wires) (hd : s'.duplicated = s.duplicated) (hl : ∀ i' k', i' < s.sites.length → ¬ (i' = i ∧ k' = k) → linksOf s' i' k' = linksOf s i' k')
    (ho : o = con A (G.recopy i k g) s' (.site i)) : Step A W H G s (upd H2 (G.ad (.site i)) o) (G.recopy i k g) s' := by
  have h2 := h.ex e
  have okS : (Role.site i).ok s.sites.length s.wires.length := hi
  have old : ∀ r, r.ok s.sites.length s.wires.length → (∀ i' k' c, r = .cp i' k' c → ¬ (i' = i ∧ k' = k)) → (G.recopy i k g).ad r = G.ad r := fun r hr hne => by
    cases r with
    | cp i' k' c =>
      show (if i' = i ∧ k' = k then g.ad c else G.ad (.cp i' k' c)) = _
      rw [if_neg (hne i' k' c rfl)]
    | _ => rfl
  have new : ∀ c, (G.recopy i k g).ad (.cp i k c) = g.ad c := fun c => if_pos ⟨rfl, rfl⟩
  have gne : ∀ c r, c.ok s.sites.length → r.ok s.sites.length s.wires.length → g.ad c ≠ G.ad r := fun c r hc' hr z => by
    have q := h.here r hr
    rw [← z, fr c hc'] at q
    cases q
  -- every role: what it is now
  have two : ∀ r, r.ok s.sites.length s.wires.length → (∃ c, r = .cp i k c ∧ c.ok s.sites.length) ∨ ((∀ i' k' c, r = .cp i' k' c → ¬ (i' = i ∧ k' = k)) ∧ (G.recopy i k g).ad r = G.ad r) := fun r hr => by
    by_cases z : ∃ c, r = .cp i k c
    · obtain ⟨c, rfl⟩ := z
      exact .inl ⟨c, rfl, hr.2⟩
    · refine .inr ⟨?_, old r hr ?_⟩ <;>
      · rintro i' k' c rfl ⟨rfl, rfl⟩
        exact z ⟨c, rfl⟩
  have wl : s'.wires.length = s.wires.length := by rw [hw]
  refine ⟨⟨fun r hr => ?_, fun r r' hr hr' z => ?_, fun i' k' c hi' hc' => ?_, fun r i' k' c hr hi' hc' => ?_⟩, rfl, fun b u hb hob => ⟨?_, fun r hr z => ?_⟩, dom_upd e, fun a hz => ?_⟩
  · rw [hn, wl] at hr
    rcases two r hr with ⟨c, rfl, hcc⟩ | ⟨hne, er⟩
    · rw [new, upd_ne (gne c _ hcc okS), hc.here c hcc]
      show _ = some (conC A s'.sites.length ((G.recopy i k g).cg i k) (linksOf s' i k) c)
      rw [NG.recopy_cg, hn]
    · rw [er]
      by_cases z : r = .site i
      · subst z
        rw [upd_same, ho]
      · rw [upd_ne (fun y => z (h.inj r _ hr okS y)), h2.here r hr]
        congr 1
        cases r with
        | net =>
          show HO.ins A.c_Network (G.dx .net) (fl_Network (.ref (G.ad .sitesL)) (.ref (G.ad .wiresL)) (.int (s.duplicated : Int))) = HO.ins A.c_Network (G.dx .net) (fl_Network (.ref (G.ad .sitesL)) (.ref (G.ad .wiresL)) (.int (s'.duplicated : Int)))
          rw [hd]
        | sitesL =>
          show HO.lst ((List.range s.sites.length).map fun i => .ref (G.ad (.site i))) = HO.lst ((List.range s'.sites.length).map fun i => .ref (G.ad (.site i)))
          rw [hn]
        | wiresL =>
          show HO.lst ((List.range s.wires.length).map fun i => .ref (G.ad (.wire i))) = HO.lst ((List.range s'.wires.length).map fun i => .ref (G.ad (.wire i)))
          rw [wl]
        | site j =>
          have hj : j ≠ i := fun y => z (congrArg Role.site y)
          show HO.ins A.c_Site (G.dx (.site j)) (fl_Site (.ref (G.ad (.cp j false .self))) (.ref (G.ad (.cp j true .self)))) = HO.ins A.c_Site (G.dx (.site j)) (fl_Site (.ref (if j = i ∧ false = k then g.ad .self else G.ad (.cp j false .self))) (.ref (if j = i ∧ true = k then g.ad .self else G.ad (.cp j true .self))))
          rw [if_neg (fun y => hj y.1), if_neg (fun y => hj y.1)]
        | cp i' k' c =>
          show conC A s.sites.length (G.cg i' k') (linksOf s i' k') c = conC A s'.sites.length ((G.recopy i k g).cg i' k') (linksOf s' i' k') c
          rw [NG.recopy_cg' _ _ _ _ (hne i' k' c rfl), hl i' k' hr.1 (hne i' k' c rfl), hn]
        | wire j =>
          show HO.ins A.c_WirePacket (G.dx (.wire j)) (fl_WirePacket (.ref (G.ad (.oct j))) (.bl (wireOf s j).damaged)) = HO.ins A.c_WirePacket (G.dx (.wire j)) (fl_WirePacket (.ref (G.ad (.oct j))) (.bl (wireOf s' j).damaged))
          unfold wireOf
          rw [hw]
        | oct j =>
          show HO.lst (byV (wireOf s j).bytes) = HO.lst (byV (wireOf s' j).bytes)
          unfold wireOf
          rw [hw]
  · rw [hn, wl] at hr hr'
    rcases two r hr with ⟨c, rfl, hcc⟩ | ⟨hne, er⟩ <;> rcases two r' hr' with ⟨c', rfl, hcc'⟩ | ⟨hne', er'⟩
    · rw [new, new] at z
      rw [hc.inj c c' hcc hcc' z]
    · rw [new, er'] at z
      exact absurd z (gne c r' hcc hr')
    · rw [new, er] at z
      exact absurd z.symm (gne c' r hcc' hr)
    · rw [er, er'] at z
      exact h.inj r r' hr hr' z
  · rw [hn] at hi' hc'
    by_cases z : i' = i ∧ k' = k
    · obtain ⟨rfl, rfl⟩ := z
      have ep : (G.recopy i' k' g).ps i' k' c = g.ps c := if_pos ⟨rfl, rfl⟩
      rw [ep]
      refine (hc.pay c hc').ex fun a ha u hu => ?_
      rw [upd_ne ?_]
      · exact hu
      · intro y
        rw [hps] at ha
        exact h.out _ _ _ _ okS hi hc' (y ▸ ha)
    · have ep : (G.recopy i k g).ps i' k' c = G.ps i' k' c := if_neg z
      rw [ep, hl i' k' hi' z]
      refine (h2.pay i' k' c hi' hc').ex fun a ha u hu => ?_
      rw [upd_ne ?_]
      · exact hu
      · intro y
        exact h.out _ _ _ _ okS hi' hc' (y ▸ ha)
  · rw [hn, wl] at hr
    rw [hn] at hi' hc'
    have ep : (G.recopy i k g).ps i' k' c = G.ps i' k' c ∨ (G.recopy i k g).ps i' k' c = G.ps i k0 c := by
      by_cases z : i' = i ∧ k' = k
      · exact .inr ((if_pos z).trans (by rw [hps]))
      · exact .inl (if_neg z)
    have mem : ∀ a, a ∈ (G.recopy i k g).ps i' k' c → a ∈ G.ps i' k' c ∨ a ∈ G.ps i k0 c := fun a ha => by
      rcases ep with ep | ep
      · exact .inl (ep ▸ ha)
      · exact .inr (ep ▸ ha)
    intro hm
    rcases two r hr with ⟨c', rfl, hcc⟩ | ⟨hne, er⟩
    · rw [new] at hm
      rcases mem _ hm with hm | hm
      · obtain ⟨u, hu⟩ := pays_known (h.pay i' k' c hi' hc') hm
        rw [fr c' hcc] at hu
        cases hu
      · obtain ⟨u, hu⟩ := pays_known (h.pay i k0 c hi hc') hm
        rw [fr c' hcc] at hu
        cases hu
    · rw [er] at hm
      rcases mem _ hm with hm | hm
      · exact h.out r i' k' c hr hi' hc' hm
      · exact h.out r i k0 c hr hi hc' hm
  · rw [upd_ne (fun y => hob (.site i) okS y.symm)]
    exact e _ _ hb
  · rw [hn, wl] at hr
    rcases two r hr with ⟨c', rfl, hcc⟩ | ⟨hne, er⟩
    · rw [new] at z
      rw [← z, fr c' hcc] at hb
      cases hb
    · rw [er] at z
      exact hob r hr z
  · obtain ⟨i', k', c, hi', hc', ha⟩ := hz
    rw [hn] at hi' hc'
    by_cases z : i' = i ∧ k' = k
    · have ep : (G.recopy i k g).ps i' k' c = G.ps i k0 c := (if_pos z).trans (by rw [hps])
      exact .inl ⟨i, k0, c, hi, hc', ep ▸ ha⟩
    · have ep : (G.recopy i k g).ps i' k' c = G.ps i' k' c := if_neg z
      exact .inl ⟨i', k', c, hi', hc', ep ▸ ha⟩
/-- a step that hands back a new list -/
def RetStep (A : Ads) (W : Addr → Prop) (H : Hp) (G : NG) (s s' : Vbxlac.State) (ans : List Int) (Q : VK) : Prop := ∀ q G' H', Step A W H G s H' G' s' → H q = none → Out G' s' q → H' q = some (.lst (ansV ans)) → Q (.ref q) H'
theorem RetStep.left {H H1 : Hp} {G : NG} {s s' : Vbxlac.State} {ans : List Int} {Q : VK} (h : RetStep A W H G s s' ans Q) (e : Ex H H1) : RetStep A W H1 G s s' ans Q := fun q G' H' st nq oq hq => h q G' H' (st.left e) (fresh_back e nq) oq hq
theorem linksOf_sync (s : Vbxlac.State) (i i' : Nat) (k' : Bool) : linksOf (Vbxlac.syncSite s (i + 1)) i' k' = if i' = i ∧ k' = true then linksOf s i false else linksOf s i' k' := by
  unfold linksOf
  rw [siteAt_sync]
  by_cases h : i' = i
  · subst h
    cases k' <;> simp
  · have : ¬ (i' + 1 - 1 = i + 1 - 1) := by omega
    simp [this, h]
theorem linksOf_crash (s : Vbxlac.State) (i i' : Nat) (k' : Bool) : linksOf (Vbxlac.crashSite s (i + 1)) i' k' = if i' = i ∧ k' = false then linksOf s i true else linksOf s i' k' := by
  unfold linksOf
  rw [siteAt_crash]
  by_cases h : i' = i
  · subst h
    cases k' <;> simp
  · have : ¬ (i' + 1 - 1 = i + 1 - 1) := by omega
    simp [this, h]
/-- the sites stand where they stood -/
def KeepS (G G' : NG) : Prop := G'.ad .sitesL = G.ad .sitesL ∧ ∀ i, G'.ad (.site i) = G.ad (.site i)
def sp_Site_sync (K : PySem.W.Frag) (A : Ads) : Sp := fun vs H Q _ => ∃ (W : Addr → Prop) (G : NG) (s : Vbxlac.State) (i : Nat), vs = [.ref (G.ad (.site i))] ∧ NetAt A H G s ∧ Sites s ∧ i < s.sites.length ∧
  ∀ q G' H', Step A W H G s H' G' (Vbxlac.syncSite s (i + 1)) → KeepS G G' → H q = none → Out G' (Vbxlac.syncSite s (i + 1)) q → H' q = some (.lst (ansV (riskOf s i))) → Q (.ref q) H'
theorem len_Site_sync : ∀ vs H Q E, sp_Site_sync K A vs H Q E → vs.length = (["self"] : List Str).length := by
  rintro vs H Q E ⟨W, G, s, i, rfl, _⟩
  rfl
def t_Site_sync (K : PySem.W.Frag) (A : Ads) : TS :=
 tSeq (tAsg (tMeth A.c_Site "at_risk" (sp_Site_at_risk K A) [] E0 (tVar 0) tNil) (gName 1))
 (tSeq (sFld K (tVar 0) (tMeth A.c_SiteCopy "copied" (sp_SiteCopy_copied K A) [] E0 (tFld K (tVar 0) "present") tNil) "durable")
 (tRet (tVar 1)))
theorem pure_Site_sync (T : Txt K mg A) (vs : List V) (H : Hp) (Q : VK) (E : XK) (h : sp_Site_sync K A vs H Q E) : t_Site_sync K A { nx := fun _ H' => Q .non H', rt := Q } (start ["self", "gained"] vs) H := by
  obtain ⟨W, G, s, i, rfl, hN, hS, hi, k⟩ := h
  refine q_asgL (el_at_risk T hN hS hi (ev_var rfl)) fun q H1 nq e1 h1 => ?_
  have hN1 := hN.ex e1
  have cp := hN1.copy hS.links (k := false) hi
  refine q_sFld (ec_copied (ev_present T hN1 hi (ev_var rfl)) cp hS.few H1 (Ex.refl H1) _ fun g H2 e2 hc fr hps => ?_)
  have hN2 := hN1.ex e2
  refine ⟨_, rfl, _, _, _, _, rfl, hN2.here (.site i) hi, T.cl_Site, T.n_Site_durable, fl_Site_few, ?_⟩
  rw [fl_Site_put_durable]
  have eS : linksOf (Vbxlac.syncSite s (i + 1)) i true = linksOf s i false := by rw [linksOf_sync, if_pos ⟨rfl, rfl⟩]
  have st : Step A W H1 G s (upd H2 (G.ad (.site i)) (.ins A.c_Site (G.dx (.site i)) (fl_Site (.ref (G.ad (.cp i false .self))) (.ref (g.ad .self))))) (G.recopy i true g) (Vbxlac.syncSite s (i + 1)) := by
    refine Step.recopy (k0 := false) hN1 e2 hi (by rw [eS]; exact hc) fr hps (length_updateAt _ _ _) rfl rfl (fun i' k' _ hne => ?_) ?_
    · rw [linksOf_sync, if_neg hne]
    · show _ = HO.ins A.c_Site (G.dx (.site i)) (fl_Site (.ref (if i = i ∧ false = true then g.ad .self else G.ad (.cp i false .self))) (.ref (if i = i ∧ true = true then g.ad .self else G.ad (.cp i true .self))))
      simp
  have nqs : q ≠ G.ad (.site i) := fun z => by
    have := hN.here (.site i) hi
    rw [← z, nq] at this
    cases this
  have oq : Out (G.recopy i true g) (Vbxlac.syncSite s (i + 1)) q := (st.2.2.1 q _ h1 (hN.fresh nq)).2
  refine s_ret (ev_var rfl) fun H3 e3 => k q _ H3 ((st.left e1).right e3) ⟨rfl, fun _ => rfl⟩ nq oq ?_
  refine e3 _ _ ?_
  rw [upd_ne nqs]
  exact e2 _ _ h1
def sp_Site_crash (K : PySem.W.Frag) (A : Ads) : Sp := fun vs H Q _ => ∃ (W : Addr → Prop) (G : NG) (s : Vbxlac.State) (i : Nat), vs = [.ref (G.ad (.site i))] ∧ NetAt A H G s ∧ Sites s ∧ i < s.sites.length ∧ RetStep A W H G s (Vbxlac.crashSite s (i + 1)) (riskOf s i) Q
theorem len_Site_crash : ∀ vs H Q E, sp_Site_crash K A vs H Q E → vs.length = (["self"] : List Str).length := by
  rintro vs H Q E ⟨W, G, s, i, rfl, _⟩
  rfl
def t_Site_crash (K : PySem.W.Frag) (A : Ads) : TS :=
 tSeq (tAsg (tMeth A.c_Site "at_risk" (sp_Site_at_risk K A) [] E0 (tVar 0) tNil) (gName 1))
 (tSeq (sFld K (tVar 0) (tMeth A.c_SiteCopy "copied" (sp_SiteCopy_copied K A) [] E0 (tFld K (tVar 0) "durable") tNil) "present")
 (tRet (tVar 1)))
theorem pure_Site_crash (T : Txt K mg A) (vs : List V) (H : Hp) (Q : VK) (E : XK) (h : sp_Site_crash K A vs H Q E) : t_Site_crash K A { nx := fun _ H' => Q .non H', rt := Q } (start ["self", "lost"] vs) H := by
  obtain ⟨W, G, s, i, rfl, hN, hS, hi, k⟩ := h
  refine q_asgL (el_at_risk T hN hS hi (ev_var rfl)) fun q H1 nq e1 h1 => ?_
  have hN1 := hN.ex e1
  have cp := hN1.copy hS.links (k := true) hi
  refine q_sFld (ec_copied (ev_durable T hN1 hi (ev_var rfl)) cp hS.few H1 (Ex.refl H1) _ fun g H2 e2 hc fr hps => ?_)
  have hN2 := hN1.ex e2
  refine ⟨_, rfl, _, _, _, _, rfl, hN2.here (.site i) hi, T.cl_Site, T.n_Site_present, fl_Site_few, ?_⟩
  rw [fl_Site_put_present]
  have eS : linksOf (Vbxlac.crashSite s (i + 1)) i false = linksOf s i true := by rw [linksOf_crash, if_pos ⟨rfl, rfl⟩]
  have st : Step A W H1 G s (upd H2 (G.ad (.site i)) (.ins A.c_Site (G.dx (.site i)) (fl_Site (.ref (g.ad .self)) (.ref (G.ad (.cp i true .self)))))) (G.recopy i false g) (Vbxlac.crashSite s (i + 1)) := by
    refine Step.recopy (k0 := true) hN1 e2 hi (by rw [eS]; exact hc) fr hps (length_updateAt _ _ _) rfl rfl (fun i' k' _ hne => ?_) ?_
    · rw [linksOf_crash, if_neg hne]
    · show _ = HO.ins A.c_Site (G.dx (.site i)) (fl_Site (.ref (if i = i ∧ false = false then g.ad .self else G.ad (.cp i false .self))) (.ref (if i = i ∧ true = false then g.ad .self else G.ad (.cp i true .self))))
      simp
  have nqs : q ≠ G.ad (.site i) := fun z => by
    have := hN.here (.site i) hi
    rw [← z, nq] at this
    cases this
  have oq : Out (G.recopy i false g) (Vbxlac.crashSite s (i + 1)) q := (st.2.2.1 q _ h1 (hN.fresh nq)).2
  refine s_ret (ev_var rfl) fun H3 e3 => k q _ H3 ((st.left e1).right e3) nq oq ?_
  refine e3 _ _ ?_
  rw [upd_ne nqs]
  exact e2 _ _ h1
end Sur
namespace Sur
open PySem PySem.Spec PyProof.Rows L2 Evl
variable {P : Program} {w : World} {K : PySem.W.Frag} {mg : Str → Option Value} {base : Heap} {A : Ads} {W : Addr → Prop}
/-! ## Sites made; the network made -/
structure SGh where
  x : Addr
  dx : Addr
  c : Bool → CG
abbrev SR := Option (Bool × CR)
def SR.ok (n : Nat) : SR → Prop
  | none => True
  | some (_, c) => c.ok n
def SGh.ad (g : SGh) : SR → Addr
  | none => g.x
  | some (k, c) => (g.c k).ad c
structure SiteMade (A : Ads) (H : Hp) (n : Nat) (g : SGh) : Prop where
  here : H g.x = some (.ins A.c_Site g.dx (fl_Site (.ref ((g.c false).ad .self)) (.ref ((g.c true).ad .self))))
  cp : ∀ k, CopyAt A H n (g.c k) (links0 n)
  inj : ∀ r r' : SR, SR.ok n r → SR.ok n r' → g.ad r = g.ad r' → r = r'
  ps : ∀ k, (g.c k).ps = fun _ => []
theorem CopyAt.keep {H H' : Hp} {n : Nat} {g : CG} {l : List Vbxlac.Link} {p : Addr} (h : CopyAt A H n g l) (np : ∀ r, r.ok n → g.ad r ≠ p) (nps : g.ps = fun _ => []) (k : ∀ b o, H b = some o → b ≠ p → H' b = some o) : CopyAt A H' n g l :=
  ⟨h.len, fun r hr => k _ _ (h.here r hr) (np r hr), h.inj, fun r hr => (h.pay r hr).ex fun a ha o ho => (by rw [nps] at ha; cases ha), h.out⟩
theorem SiteMade.keep {H H' : Hp} {n : Nat} {g : SGh} {p : Addr} (h : SiteMade A H n g) (np : ∀ r, SR.ok n r → g.ad r ≠ p) (k : ∀ b o, H b = some o → b ≠ p → H' b = some o) : SiteMade A H' n g :=
  ⟨k _ _ h.here (np none trivial), fun j => (h.cp j).keep (fun r hr => np (some (j, r)) hr) (h.ps j) k, h.inj, h.ps⟩
theorem SiteMade.ex {H H' : Hp} {n : Nat} {g : SGh} (h : SiteMade A H n g) (e : Ex H H') : SiteMade A H' n g :=
  ⟨e _ _ h.here, fun j => (h.cp j).ex e, h.inj, h.ps⟩
theorem SiteMade.known {H : Hp} {n : Nat} {g : SGh} (h : SiteMade A H n g) (r : SR) (hr : SR.ok n r) : ∃ o, H (g.ad r) = some o := by
  match r, hr with
  | none, _ => exact ⟨_, h.here⟩
  | some (k, c), hr => exact ⟨_, (h.cp k).here c hr⟩
def sp_Site_init (K : PySem.W.Frag) (A : Ads) : Sp := fun vs H Q _ => ∃ (p dx : Addr) (n : Nat), vs = [.ref p, .int (n : Int)] ∧ n ≤ 4 ∧ H p = some (.ins A.c_Site dx []) ∧
  ∀ g H2, g.x = p → SiteMade A H2 n g → (∀ r, SR.ok n r → r ≠ none → H (g.ad r) = none) → (∀ b o, H b = some o → b ≠ p → H2 b = some o) → Q .non H2
theorem len_Site_init : ∀ vs H Q E, sp_Site_init K A vs H Q E → vs.length = (["self", "site_count"] : List Str).length := by
  rintro vs H Q E ⟨p, dx, n, rfl, _⟩
  rfl
def t_Site_init (K : PySem.W.Frag) (A : Ads) : TS :=
 tSeq (sFld K (tVar 0) (tMake A.c_SiteCopy (sp_SiteCopy_init K A) [] E0 (tCons (tVar 1) (tNil))) "present")
 (sFld K (tVar 0) (tMake A.c_SiteCopy (sp_SiteCopy_init K A) [] E0 (tCons (tVar 1) (tNil))) "durable")
theorem pure_Site_init (T : Txt K mg A) (vs : List V) (H : Hp) (Q : VK) (E : XK) (h : sp_Site_init K A vs H Q E) : t_Site_init K A { nx := fun _ H' => Q .non H', rt := Q } (start ["self", "site_count"] vs) H := by
  obtain ⟨p, dx, n, rfl, hn, hp, k⟩ := h
  refine q_sFld (ec_make (ev_var rfl) hn H (Ex.refl H) _ fun g0 H1 e1 c0 f0 p0 => ?_)
  refine ⟨_, rfl, p, _, dx, [], rfl, e1 _ _ hp, T.cl_Site, T.n_Site_present, by decide, ?_⟩
  refine s_sFld (ec_make (ev_var rfl) hn _ (Ex.refl _) _ fun g1 H2 e2 c1 f1 p1 => ?_)
  refine ⟨_, rfl, p, _, dx, _, rfl, e2 _ _ upd_same, T.cl_Site, T.n_Site_durable, Nat.lt_of_le_of_lt (length_putF _ _ _) (by decide), ?_⟩
  show Q .non (upd H2 p _)
  rw [fl_Site_new]
  have np0 : ∀ r, r.ok n → g0.ad r ≠ p := fun r hr z => by have := f0 r hr; rw [z, hp] at this; cases this
  have np1 : ∀ r, r.ok n → g1.ad r ≠ p := fun r hr z => by have := f1 r hr; rw [z, upd_same] at this; cases this
  have k0 : ∀ b o, H1 b = some o → b ≠ p → (upd H2 p (.ins A.c_Site dx (fl_Site (.ref (g0.ad .self)) (.ref (g1.ad .self))))) b = some o := fun b o hb nb => by
    rw [upd_ne nb]
    refine e2 _ _ ?_
    rw [upd_ne nb]
    exact hb
  have k1 : ∀ b o, H2 b = some o → b ≠ p → (upd H2 p (.ins A.c_Site dx (fl_Site (.ref (g0.ad .self)) (.ref (g1.ad .self))))) b = some o := fun b o hb nb => by
    rw [upd_ne nb]
    exact hb
  have cross : ∀ r r', r.ok n → r'.ok n → g0.ad r ≠ g1.ad r' := fun r r' hr hr' z => by
    have q := f1 r' hr'
    rw [← z, upd_ne (np0 r hr), c0.here r hr] at q
    cases q
  refine k ⟨p, dx, fun j => if j = true then g1 else g0⟩ _ rfl ⟨upd_same, fun j => ?_, ?_, fun j => ?_⟩ ?_ (fun b o hb nb => k0 b o (e1 _ _ hb) nb)
  · cases j
    · exact c0.keep np0 p0 k0
    · exact c1.keep np1 p1 k1
  · intro r r' hr hr' e
    match r, r', hr, hr', e with
    | none, none, _, _, _ => rfl
    | none, some (false, c), _, hr', e => exact absurd e.symm (np0 c hr')
    | none, some (true, c), _, hr', e => exact absurd e.symm (np1 c hr')
    | some (false, c), none, hr, _, e => exact absurd e (np0 c hr)
    | some (true, c), none, hr, _, e => exact absurd e (np1 c hr)
    | some (false, c), some (false, c'), hr, hr', e => rw [c0.inj c c' hr hr' e]
    | some (true, c), some (true, c'), hr, hr', e => rw [c1.inj c c' hr hr' e]
    | some (false, c), some (true, c'), hr, hr', e => exact absurd e (cross c c' hr hr')
    | some (true, c), some (false, c'), hr, hr', e => exact absurd e.symm (cross c' c hr' hr)
  · cases j
    · exact p0
    · exact p1
  · intro r hr hne
    match r, hr, hne with
    | none, _, hne => exact absurd rfl hne
    | some (false, c), hr, _ => exact f0 c hr
    | some (true, c), hr, _ =>
      have q := f1 c hr
      rw [upd_ne (np1 c hr)] at q
      exact fresh_back e1 q
def EvS (A : Ads) (te : TE) (σ : L2.St) (H : Hp) (n : Nat) : Prop := ∀ H1, Ex H H1 → ∀ Q : VK, (∀ g H2, Ex H1 H2 → SiteMade A H2 n g → (∀ r, SR.ok n r → H1 (g.ad r) = none) → Q (.ref g.x) H2) → te σ H1 Q
theorem es_make {σ : L2.St} {H : Hp} {ta : TE} {n : Nat} (h : Ev ta σ H (.int (n : Int))) (hn : n ≤ 4) : EvS A (tMake A.c_Site (sp_Site_init K A) [] E0 (tCons ta tNil)) σ H n := fun H1 e Q q =>
  h H1 e _ fun H2 e2 x dx nx nd ne => by
    refine ⟨x, dx, n, rfl, hn, upd_same, fun g H3 gx hm fr keep => ⟨rfl, ?_⟩⟩
    have e3 : Ex H2 H3 := fun b o hb => keep b o (by rw [upd_ne (ne_of_none hb nx), upd_ne (ne_of_none hb nd)]; exact hb) (ne_of_none hb nx)
    rw [← gx]
    refine q g H3 (e2.trans e3) hm (fun r hr => ?_)
    by_cases z : r = none
    · rw [z]
      show H1 g.x = none
      rw [gx]
      exact fresh_back e2 nx
    · have h4 := fr r hr z
      refine fresh_back e2 ?_
      have h5 : g.ad r ≠ x := fun y => by rw [y, upd_same] at h4; cases h4
      rw [upd_ne h5] at h4
      have h6 : g.ad r ≠ dx := fun y => by rw [y, upd_same] at h4; cases h4
      rw [upd_ne h6] at h4
      exact h4
/-- the sites made so far -/
structure SitesI (A : Ads) (H1 : Hp) (D : Addr) (n i : Nat) (gs : List SGh) (H2 : Hp) : Prop where
  nD : H1 D = none
  ex : Ex H1 H2
  len : gs.length = i
  made : ∀ g ∈ gs, SiteMade A H2 n g
  fr : ∀ g ∈ gs, ∀ r, SR.ok n r → H1 (g.ad r) = none ∧ g.ad r ≠ D
  inj : ∀ (i j : Nat) (a b : SGh) (r r' : SR), gs[i]? = some a → gs[j]? = some b → SR.ok n r → SR.ok n r' → a.ad r = b.ad r' → i = j ∧ r = r'
  lst : H2 D = some (.lst (gs.map fun g => .ref g.x))
theorem SitesI.turn {H1 H2 H3 : Hp} {D : Addr} {n i : Nat} {gs : List SGh} {g : SGh} (h : SitesI A H1 D n i gs H2) (e : Ex H2 H3) (m : SiteMade A H3 n g) (fr : ∀ r, SR.ok n r → H2 (g.ad r) = none) (hi : i ≤ 4) :
    ∃ acc, H3 D = some (.lst acc) ∧ acc.length < sizeLine ∧ SitesI A H1 D n (i + 1) (gs ++ [g]) (upd H3 D (.lst (acc ++ [.ref g.x]))) := by
  have gD : ∀ r, SR.ok n r → g.ad r ≠ D := fun r hr z => by have := fr r hr; rw [z, h.lst] at this; cases this
  have kD : ∀ b o, H3 b = some o → b ≠ D → (upd H3 D (.lst ((gs.map fun g => .ref g.x) ++ [.ref g.x]))) b = some o := fun b o hb nb => by rw [upd_ne nb]; exact hb
  have far : ∀ (i : Nat) (a : SGh) (r r' : SR), gs[i]? = some a → SR.ok n r → SR.ok n r' → a.ad r ≠ g.ad r' := fun i a r r' ha hr hr' z => by
    obtain ⟨o, ho⟩ := (h.made a (List.mem_of_getElem? ha)).known r hr
    rw [z, fr r' hr'] at ho
    cases ho
  refine ⟨_, e _ _ h.lst, by rw [List.length_map, h.len]; exact Nat.lt_of_le_of_lt hi (by decide), h.nD, Ex.mut (h.ex.trans e) h.nD, by simp [h.len], ?_, ?_, ?_, ?_⟩
  · intro g' hg'
    rw [List.mem_append, List.mem_singleton] at hg'
    rcases hg' with hg' | rfl
    · exact ((h.made g' hg').ex e).keep (fun r hr => (h.fr g' hg' r hr).2) kD
    · exact m.keep gD kD
  · intro g' hg' r hr
    rw [List.mem_append, List.mem_singleton] at hg'
    rcases hg' with hg' | rfl
    · exact h.fr g' hg' r hr
    · exact ⟨fresh_back h.ex (fr r hr), gD r hr⟩
  · have cut : ∀ (i : Nat) (a : SGh), (gs ++ [g])[i]? = some a → gs[i]? = some a ∨ (i = gs.length ∧ a = g) := fun i a ha => by
      by_cases hi : i < gs.length
      · rw [List.getElem?_append_left hi] at ha
        exact .inl ha
      · have hz : i = gs.length := by
          have := (List.getElem?_eq_some_iff.mp ha).1
          simp at this
          omega
        subst hz
        rw [List.getElem?_append_right (Nat.le_refl _)] at ha
        simp at ha
        exact .inr ⟨rfl, ha.symm⟩
    intro i j a b r r' ha hb hr hr' z
    rcases cut i a ha with ha1 | ⟨i1, a1⟩ <;> rcases cut j b hb with hb1 | ⟨j1, b1⟩
    · exact h.inj i j a b r r' ha1 hb1 hr hr' z
    · rw [b1] at z
      exact absurd z (far i a r r' ha1 hr hr')
    · rw [a1] at z
      exact absurd z.symm (far j b r' r hb1 hr' hr)
    · rw [a1, b1] at z
      exact ⟨i1.trans j1.symm, m.inj r r' hr hr' z⟩
  · rw [upd_same]
    simp
def created (s : Vbxlac.State) (n : Nat) : Vbxlac.State := { s with sites := List.replicate n ⟨List.replicate n Vbxlac.emptyLink, List.replicate n Vbxlac.emptyLink⟩ }
theorem linksOf_created {s : Vbxlac.State} {n i : Nat} {k : Bool} (hi : i < n) : linksOf (created s n) i k = links0 n := by
  unfold linksOf Vbxlac.siteAt created links0
  simp [hi]
def NG.grown (G : NG) (D : Addr) (gs : List SGh) : NG :=
  ⟨fun r => match r with
    | .cp i k c => ((gs.getD i ⟨0, 0, fun _ => ⟨fun _ => 0, 0, fun _ => []⟩⟩).c k).ad c
    | .net => G.ad .net
    | .sitesL => D
    | .wiresL => G.ad .wiresL
    | .site j => (gs.getD j ⟨0, 0, fun _ => ⟨fun _ => 0, 0, fun _ => []⟩⟩).x
    | .wire j => G.ad (.wire j)
    | .oct j => G.ad (.oct j),
   fun r => match r with
    | .cp i k c => ((gs.getD i ⟨0, 0, fun _ => ⟨fun _ => 0, 0, fun _ => []⟩⟩).c k).dx
    | .net => G.dx .net
    | .sitesL => 0
    | .wiresL => 0
    | .site j => (gs.getD j ⟨0, 0, fun _ => ⟨fun _ => 0, 0, fun _ => []⟩⟩).dx
    | .wire j => G.dx (.wire j)
    | .oct j => G.dx (.oct j),
   fun _ _ _ => []⟩
theorem Step.grown {H H2 : Hp} {G : NG} {s : Vbxlac.State} {D : Addr} {n : Nat} {gs : List SGh} (h : NetAt A H G s) (hw : s.wires = []) (m : SitesI A H D n n gs H2) :
    Step A W H G s (upd H2 (G.ad .net) (.ins A.c_Network (G.dx .net) (fl_Network (.ref D) (.ref (G.ad .wiresL)) (.int (s.duplicated : Int))))) (G.grown D gs) (created s n) := by
  have hn : (created s n).sites.length = n := by simp [created]
  have hm : (created s n).wires.length = 0 := by simp [created, hw]
  have at' : ∀ i, i < n → gs[i]? = some (gs.getD i ⟨0, 0, fun _ => ⟨fun _ => 0, 0, fun _ => []⟩⟩) := fun i hi => by
    rw [List.getD_eq_getElem?_getD, List.getElem?_eq_getElem (by rw [m.len]; exact hi)] <;> rfl
  have kn : ∀ r, r.ok s.sites.length s.wires.length → ∃ o, H (G.ad r) = some o := fun r hr => ⟨_, h.here r hr⟩
  have nN : ∀ b, H b = none → b ≠ G.ad .net := fun b hb z => by
    obtain ⟨o, ho⟩ := kn .net trivial
    rw [← z, hb] at ho
    cases ho
  have nW : ∀ b, H b = none → b ≠ G.ad .wiresL := fun b hb z => by
    obtain ⟨o, ho⟩ := kn .wiresL trivial
    rw [← z, hb] at ho
    cases ho
  have keep : ∀ b o, H2 b = some o → b ≠ G.ad .net → (upd H2 (G.ad .net) (.ins A.c_Network (G.dx .net) (fl_Network (.ref D) (.ref (G.ad .wiresL)) (.int (s.duplicated : Int))))) b = some o := fun b o hb nb => by rw [upd_ne nb]; exact hb
  -- each role's address: the network's, the wires' list, or one that H doesn't know
  have one : ∀ i, i < n → SiteMade A (upd H2 (G.ad .net) (.ins A.c_Network (G.dx .net) (fl_Network (.ref D) (.ref (G.ad .wiresL)) (.int (s.duplicated : Int))))) n (gs.getD i ⟨0, 0, fun _ => ⟨fun _ => 0, 0, fun _ => []⟩⟩) := fun i hi =>
    (m.made _ (List.mem_of_getElem? (at' i hi))).keep (fun r hr => nN _ (m.fr _ (List.mem_of_getElem? (at' i hi)) r hr).1) keep
  have nwn : G.ad .wiresL ≠ G.ad .net := fun z => by
    have := h.inj .wiresL .net trivial trivial z
    cases this
  have sr : ∀ r : Role, r.ok n 0 → r = .net ∨ r = .wiresL ∨ r = .sitesL ∨ ∃ i q, i < n ∧ SR.ok n q ∧ (G.grown D gs).ad r = (gs.getD i ⟨0, 0, fun _ => ⟨fun _ => 0, 0, fun _ => []⟩⟩).ad q ∧ r = (match q with | none => .site i | some (k, c) => .cp i k c) := fun r hr => by
    cases r with
    | net => exact .inl rfl
    | wiresL => exact .inr (.inl rfl)
    | sitesL => exact .inr (.inr (.inl rfl))
    | site i => exact .inr (.inr (.inr ⟨i, none, hr, trivial, rfl, rfl⟩))
    | cp i k c => exact .inr (.inr (.inr ⟨i, some (k, c), hr.1, hr.2, rfl, rfl⟩))
    | wire j => exact absurd hr (Nat.not_lt_zero _)
    | oct j => exact absurd hr (Nat.not_lt_zero _)
  refine ⟨⟨fun r hr => ?_, fun r r' hr hr' z => ?_, fun i k c hi hc => ?_, fun r i k c _ _ _ => ?_⟩, rfl, fun b u hb hob => ⟨?_, fun r hr z => ?_⟩, dom_upd m.ex, fun a hz => by obtain ⟨i, k, c, _, _, ha⟩ := hz; cases ha⟩
  · rw [hn, hm] at hr
    cases r with
    | net => exact upd_same
    | wiresL =>
      show (upd H2 (G.ad .net) _) (G.ad .wiresL) = some (.lst ((List.range (created s n).wires.length).map fun i => .ref (G.ad (.wire i))))
      rw [upd_ne nwn, m.ex _ _ (h.here .wiresL trivial), hm]
      show some (HO.lst ((List.range s.wires.length).map fun i => .ref (G.ad (.wire i)))) = _
      rw [hw]
      rfl
    | sitesL =>
      show (upd H2 (G.ad .net) _) D = some (.lst ((List.range (created s n).sites.length).map fun i => .ref (gs.getD i ⟨0, 0, fun _ => ⟨fun _ => 0, 0, fun _ => []⟩⟩).x))
      rw [upd_ne (nN D m.nD), m.lst, hn]
      congr 2
      apply List.ext_getElem?
      intro i
      by_cases hi : i < n
      · rw [range_at hi, List.getElem?_map, at' i hi] <;> rfl
      · rw [List.getElem?_eq_none (by simp; rw [m.len]; omega), List.getElem?_eq_none (by simp; omega)]
    | site i => exact (one i hr).here
    | cp i k c =>
      show (upd H2 (G.ad .net) _) _ = some (conC A (created s n).sites.length ((G.grown D gs).cg i k) (linksOf (created s n) i k) c)
      rw [linksOf_created hr.1, hn]
      have q := ((one i hr.1).cp k).here c hr.2
      refine q.trans ?_
      congr 1
      have ep : ((gs.getD i ⟨0, 0, fun _ => ⟨fun _ => 0, 0, fun _ => []⟩⟩).c k).ps = fun _ => [] := (one i hr.1).ps k
      cases c with
      | sent j =>
        show HO.lst ((((gs.getD i ⟨0, 0, fun _ => ⟨fun _ => 0, 0, fun _ => []⟩⟩).c k).ps (.sent j)).map V.ref) = HO.lst []
        rw [ep] <;> rfl
      | recv j =>
        show HO.lst ((((gs.getD i ⟨0, 0, fun _ => ⟨fun _ => 0, 0, fun _ => []⟩⟩).c k).ps (.recv j)).map V.ref) = HO.lst []
        rw [ep] <;> rfl
      | _ => rfl
    | wire j => exact absurd hr (Nat.not_lt_zero _)
    | oct j => exact absurd hr (Nat.not_lt_zero _)
  · rw [hn, hm] at hr hr'
    have gs0 : ∀ i q, i < n → SR.ok n q → H ((gs.getD i ⟨0, 0, fun _ => ⟨fun _ => 0, 0, fun _ => []⟩⟩).ad q) = none ∧ (gs.getD i ⟨0, 0, fun _ => ⟨fun _ => 0, 0, fun _ => []⟩⟩).ad q ≠ D := fun i q hi hq => m.fr _ (List.mem_of_getElem? (at' i hi)) q hq
    rcases sr r hr with rfl | rfl | rfl | ⟨i, q, hi, hq, er, e⟩ <;> rcases sr r' hr' with rfl | rfl | rfl | ⟨i', q', hi', hq', er', e'⟩
    · rfl
    · exact absurd z.symm nwn
    · exact absurd (show G.ad .net = D from z).symm (nN D m.nD)
    · rw [er'] at z
      exact absurd z.symm (nN _ (gs0 i' q' hi' hq').1)
    · exact absurd z nwn
    · rfl
    · exact absurd (show G.ad .wiresL = D from z).symm (nW D m.nD)
    · rw [er'] at z
      exact absurd z.symm (nW _ (gs0 i' q' hi' hq').1)
    · exact absurd (show D = G.ad .net from z) (nN D m.nD)
    · exact absurd (show D = G.ad .wiresL from z) (nW D m.nD)
    · rfl
    · rw [er'] at z
      exact absurd z.symm (gs0 i' q' hi' hq').2
    · rw [er] at z
      exact absurd z (nN _ (gs0 i q hi hq).1)
    · rw [er] at z
      exact absurd z (nW _ (gs0 i q hi hq).1)
    · rw [er] at z
      exact absurd z (gs0 i q hi hq).2
    · rw [er, er'] at z
      obtain ⟨y1, y2⟩ := m.inj i i' _ _ q q' (at' i hi) (at' i' hi') hq hq' z
      rw [e, e', y1, y2]
  · rw [hn] at hi
    rw [linksOf_created hi, msgs_links0]
    exact Pays.nil
  · intro z
    cases z
  · rw [upd_ne (fun z => hob .net trivial z.symm)]
    exact m.ex _ _ hb
  · rw [hn, hm] at hr
    rcases sr r hr with rfl | rfl | rfl | ⟨i, q, hi, hq, er, e⟩
    · exact hob .net trivial z
    · exact hob .wiresL trivial z
    · have z' : D = b := z
      rw [← z', m.nD] at hb
      cases hb
    · rw [er] at z
      rw [← z, (m.fr _ (List.mem_of_getElem? (at' i hi)) q hq).1] at hb
      cases hb
theorem lc_yes {te : TE} {σ : L2.St} {H : Hp} {Q : VK} {R : Hp → Prop} (h : te σ H Q) : tYes σ H fun b H3 => if b = true then te σ H3 Q else R H3 := by
  show if true = true then te σ H Q else R H
  rw [if_pos rfl]
  exact h
def sp_Network_add_sites (K : PySem.W.Frag) (A : Ads) : Sp := fun vs H Q _ => ∃ (W : Addr → Prop) (G : NG) (s : Vbxlac.State) (n : Nat), vs = [.ref (G.ad .net), .int (n : Int)] ∧ NetAt A H G s ∧ s.wires = [] ∧ n ≤ 4 ∧ ∀ G' H', Step A W H G s H' G' (created s n) → Q .non H'
theorem len_Network_add_sites : ∀ vs H Q E, sp_Network_add_sites K A vs H Q E → vs.length = (["self", "count"] : List Str).length := by
  rintro vs H Q E ⟨W, G, s, n, rfl, _⟩
  rfl
def t_Network_add_sites (K : PySem.W.Frag) (A : Ads) : TS :=
 sFld K (tVar 0) (tLc (iRng1 (tCons (tVar 1) (tNil))) (gName 2) (tYes) (tMake A.c_Site (sp_Site_init K A) [] E0 (tCons (tVar 1) (tNil))) [2]) "sites"
theorem pure_Network_add_sites (T : Txt K mg A) (vs : List V) (H : Hp) (Q : VK) (E : XK) (h : sp_Network_add_sites K A vs H Q E) : t_Network_add_sites K A { nx := fun _ H' => Q .non H', rt := Q } (start ["self", "count", "place"] vs) H := by
  obtain ⟨W, G, s, n, rfl, hN, hw, hn, k⟩ := h
  refine s_sFld ?_
  refine ⟨_, rfl, ?_⟩
  refine ⟨(n : Int), rfl, by omega, by omega, fun D hD => ?_⟩
  refine lc_range (lo := 0) (n := (n : Int).toNat) (fun i H' => ∃ gs, SitesI A H D n i gs H') ⟨[], hD, Ex.new hD, rfl, (by intro g z; cases z), (by intro g z; cases z), (by intro i j a b r r' z; simp at z), upd_same⟩ (fun i H' hi ⟨gs, p⟩ => ?_) (fun H' ⟨gs, p⟩ => ?_)
  · refine ⟨rfl, ?_⟩
    refine lc_yes (es_make (ta := tVar 1) (n := n) (σ := [some (.ref (G.ad .net)), some (.int (n : Int)), some (.int ((0 : Int) + (i : Int)))]) (ev_var rfl) hn H' (Ex.refl H') _ fun g H2 e2 hm fr => ?_)
    obtain ⟨acc, h1, h2, h3⟩ := p.turn e2 hm fr (by omega)
    exact ⟨acc, h1, h2, _, h3⟩
  · have p' : SitesI A H D n n gs H' := by simpa using p
    refine ⟨_, rfl, G.ad .net, _, _, _, rfl, p'.ex _ _ (hN.here .net trivial), T.cl_Network, T.n_Network_sites, fl_Network_few, ?_⟩
    rw [fl_Network_put_sites]
    exact k _ _ (Step.grown hN hw p')
/-! ### the network made -/
def sp_Network_init (K : PySem.W.Frag) (A : Ads) : Sp := fun vs H Q _ => ∃ (p dx : Addr), vs = [.ref p] ∧ H p = some (.ins A.c_Network dx []) ∧
  ∀ G H2, G.ad .net = p → NetAt A H2 G Vbxlac.start → (∀ b o, H b = some o → b ≠ p → H2 b = some o ∧ Out G Vbxlac.start b) → Q .non H2
theorem len_Network_init : ∀ vs H Q E, sp_Network_init K A vs H Q E → vs.length = (["self"] : List Str).length := by
  rintro vs H Q E ⟨p, dx, rfl, _⟩
  rfl
def t_Network_init (K : PySem.W.Frag) (A : Ads) : TS :=
 tSeq (sFld K (tVar 0) (tLst (tNil)) "sites")
 (tSeq (sFld K (tVar 0) (tLst (tNil)) "wires")
 (sFld K (tVar 0) (tC (.int 0)) "duplicated"))
theorem pure_Network_init (T : Txt K mg A) (vs : List V) (H : Hp) (Q : VK) (E : XK) (h : sp_Network_init K A vs H Q E) : t_Network_init K A { nx := fun _ H' => Q .non H', rt := Q } (start ["self"] vs) H := by
  obtain ⟨p, dx, rfl, hp, k⟩ := h
  refine q_sFld (el_lst ea_nil (by decide) H (Ex.refl H) _ fun l1 H1 n1 e1 h1 => ?_)
  refine ⟨_, rfl, p, _, dx, [], rfl, e1 _ _ hp, T.cl_Network, T.n_Network_sites, by decide, ?_⟩
  refine q_sFld (el_lst ea_nil (by decide) _ (Ex.refl _) _ fun l2 H2 n2 e2 h2 => ?_)
  refine ⟨_, rfl, p, _, dx, _, rfl, e2 _ _ upd_same, T.cl_Network, T.n_Network_wires, Nat.lt_of_le_of_lt (length_putF _ _ _) (by decide), ?_⟩
  refine s_sFld ?_
  refine ⟨_, rfl, p, _, dx, _, rfl, upd_same, T.cl_Network, T.n_Network_duplicated, Nat.lt_of_le_of_lt (length_putF _ _ _) (Nat.lt_of_le_of_lt (Nat.succ_le_succ (length_putF _ _ _)) (by decide)), ?_⟩
  show Q .non (upd (upd H2 p _) p _)
  rw [upd_upd, fl_Network_new]
  have np1 : l1 ≠ p := fun z => by rw [z, hp] at n1; cases n1
  have np2 : l2 ≠ p := fun z => by rw [z, upd_same] at n2; cases n2
  have n2' : H1 l2 = none := by rw [upd_ne np2] at n2; exact n2
  have n12 : l1 ≠ l2 := fun z => by rw [← z, h1] at n2'; cases n2'
  refine k ⟨fun r => match r with
    | .net => p
    | .sitesL => l1
    | .wiresL => l2
    | _ => 0, fun _ => dx, fun _ _ _ => []⟩ _ rfl ⟨fun r hr => ?_, fun r r' hr hr' z => ?_, fun i k c hi hc => absurd hi (Nat.not_lt_zero _), fun r i k c hr hi hc => absurd hi (Nat.not_lt_zero _)⟩ (fun b o hb nb => ⟨?_, fun r hr z => ?_⟩)
  · cases r with
    | net => exact upd_same
    | sitesL =>
      show (upd H2 p _) l1 = _
      rw [upd_ne np1]
      refine (e2 l1 (.lst []) ?_).trans rfl
      rw [upd_ne np1]
      exact h1
    | wiresL =>
      show (upd H2 p _) l2 = _
      rw [upd_ne np2, h2] <;> rfl
    | site i => exact absurd hr (Nat.not_lt_zero _)
    | cp i k c => exact absurd hr.1 (Nat.not_lt_zero _)
    | wire j => exact absurd hr (Nat.not_lt_zero _)
    | oct j => exact absurd hr (Nat.not_lt_zero _)
  · cases r <;> cases r' <;> first
      | rfl
      | exact absurd hr (Nat.not_lt_zero _)
      | exact absurd hr' (Nat.not_lt_zero _)
      | exact absurd hr.1 (Nat.not_lt_zero _)
      | exact absurd hr'.1 (Nat.not_lt_zero _)
      | exact absurd z np1
      | exact absurd z.symm np1
      | exact absurd z np2
      | exact absurd z.symm np2
      | exact absurd z n12
      | exact absurd z.symm n12
  · rw [upd_ne nb]
    refine e2 _ _ ?_
    rw [upd_ne nb]
    exact e1 _ _ hb
  · cases r with
    | net => exact nb z.symm
    | sitesL =>
      have z' : l1 = b := z
      rw [← z', n1] at hb
      cases hb
    | wiresL =>
      have z' : l2 = b := z
      have := fresh_back e1 n2'
      rw [← z', this] at hb
      cases hb
    | site i => exact absurd hr (Nat.not_lt_zero _)
    | cp i k c => exact absurd hr.1 (Nat.not_lt_zero _)
    | wire j => exact absurd hr (Nat.not_lt_zero _)
    | oct j => exact absurd hr (Nat.not_lt_zero _)
end Sur
namespace Sur
open PySem PySem.Spec PyProof.Rows L2 Evl
variable {P : Program} {w : World} {K : PySem.W.Frag} {mg : Str → Option Value} {base : Heap} {A : Ads} {W : Addr → Prop}
/-! ## The wires: packets put on them, taken off -/
def addW (s : Vbxlac.State) (w : Vbxlac.WirePacket) : Vbxlac.State := { s with wires := s.wires ++ [w] }
def NG.addW (G : NG) (m x dx o : Addr) : NG :=
  ⟨fun r => match r with
    | .wire j => if j = m then x else G.ad (.wire j)
    | .oct j => if j = m then o else G.ad (.oct j)
    | .net => G.ad .net
    | .sitesL => G.ad .sitesL
    | .wiresL => G.ad .wiresL
    | .site j => G.ad (.site j)
    | .cp i k c => G.ad (.cp i k c),
   fun r => match r with
    | .wire j => if j = m then dx else G.dx (.wire j)
    | .net => G.dx .net
    | .sitesL => G.dx .sitesL
    | .wiresL => G.dx .wiresL
    | .site j => G.dx (.site j)
    | .cp i k c => G.dx (.cp i k c)
    | .oct j => G.dx (.oct j),
   G.ps⟩
/-- all but the wires' own addresses is kept -/
structure Keeps (G G' : NG) : Prop where
  cp : ∀ i k c, G'.ad (.cp i k c) = G.ad (.cp i k c)
  site : ∀ i, G'.ad (.site i) = G.ad (.site i)
  net : G'.ad .net = G.ad .net
  wiresL : G'.ad .wiresL = G.ad .wiresL
  ps : G'.ps = G.ps
  dx : ∀ i k c, G'.dx (.cp i k c) = G.dx (.cp i k c)
theorem Keeps.refl (G : NG) : Keeps G G := ⟨fun _ _ _ => rfl, fun _ => rfl, rfl, rfl, rfl, fun _ _ _ => rfl⟩
theorem Keeps.trans {G G1 G2 : NG} (a : Keeps G G1) (b : Keeps G1 G2) : Keeps G G2 :=
  ⟨fun i k c => (b.cp i k c).trans (a.cp i k c), fun i => (b.site i).trans (a.site i), b.net.trans a.net, b.wiresL.trans a.wiresL, b.ps.trans a.ps, fun i k c => (b.dx i k c).trans (a.dx i k c)⟩
theorem Keeps.cg {G G' : NG} (h : Keeps G G') (i : Nat) (k : Bool) : G'.cg i k = G.cg i k := by
  unfold NG.cg
  rw [h.ps, h.dx]
  congr 1
  funext c
  exact h.cp i k c
theorem NG.addW_keeps (G : NG) (m x dx o : Addr) : Keeps G (G.addW m x dx o) := ⟨fun _ _ _ => rfl, fun _ => rfl, rfl, rfl, rfl, fun _ _ _ => rfl⟩
theorem wireOf_add (s : Vbxlac.State) (w : Vbxlac.WirePacket) (j : Nat) : wireOf (addW s w) j = if j = s.wires.length then w else wireOf s j := by
  unfold wireOf addW
  by_cases h : j = s.wires.length
  · subst h; simp
  · rw [if_neg h]
    by_cases h2 : j < s.wires.length
    · rw [List.getElem?_append_left h2]
    · rw [List.getElem?_eq_none (by simp; omega), List.getElem?_eq_none (by omega)]
theorem Step.addW {H H2 : Hp} {G : NG} {s : Vbxlac.State} {x dx o : Addr} {w : Vbxlac.WirePacket} (h : NetAt A H G s) (e : Ex H H2) (nx : H x = none) (no : H o = none) (xo : x ≠ o) (hx : H2 x = some (.ins A.c_WirePacket dx (fl_WirePacket (.ref o) (.bl w.damaged)))) (ho : H2 o = some (.lst (byV w.bytes))) :
    Step A W H G s (upd H2 (G.ad .wiresL) (.lst (((List.range s.wires.length).map fun j => .ref (G.ad (.wire j))) ++ [.ref x]))) (G.addW s.wires.length x dx o) (addW s w) := by
  have h2 := h.ex e
  have ln : (Sur.addW s w).wires.length = s.wires.length + 1 := by simp [Sur.addW]
  have ls : (Sur.addW s w).sites = s.sites := rfl
  have okL : Role.wiresL.ok s.sites.length s.wires.length := trivial
  have kn : ∀ r, r.ok s.sites.length s.wires.length → ∀ b, H b = none → b ≠ G.ad r := fun r hr b hb z => by
    have := h.here r hr
    rw [← z, hb] at this
    cases this
  have cut : ∀ r, r.ok s.sites.length (s.wires.length + 1) → r = .wire s.wires.length ∨ r = .oct s.wires.length ∨ (r.ok s.sites.length s.wires.length ∧ (G.addW s.wires.length x dx o).ad r = G.ad r) := fun r hr => by
    cases r with
    | wire j =>
      by_cases z : j = s.wires.length
      · exact .inl (by rw [z])
      · exact .inr (.inr ⟨by have : j < s.wires.length + 1 := hr; show j < s.wires.length; omega, if_neg z⟩)
    | oct j =>
      by_cases z : j = s.wires.length
      · exact .inr (.inl (by rw [z]))
      · exact .inr (.inr ⟨by have : j < s.wires.length + 1 := hr; show j < s.wires.length; omega, if_neg z⟩)
    | net => exact .inr (.inr ⟨trivial, rfl⟩)
    | sitesL => exact .inr (.inr ⟨trivial, rfl⟩)
    | wiresL => exact .inr (.inr ⟨trivial, rfl⟩)
    | site j => exact .inr (.inr ⟨hr, rfl⟩)
    | cp i k c => exact .inr (.inr ⟨hr, rfl⟩)
  have aw : (G.addW s.wires.length x dx o).ad (.wire s.wires.length) = x := if_pos rfl
  have ao : (G.addW s.wires.length x dx o).ad (.oct s.wires.length) = o := if_pos rfl
  refine ⟨⟨fun r hr => ?_, fun r r' hr hr' z => ?_, fun i k c hi hc => ?_, fun r i k c hr hi hc hm => ?_⟩, rfl, fun b u hb hob => ⟨?_, fun r hr z => ?_⟩, dom_upd e, fun a hz => .inl hz⟩
  · rw [ln, ls] at hr
    rcases cut r hr with rfl | rfl | ⟨hr0, er⟩
    · rw [aw, upd_ne (kn _ okL x nx), hx]
      show _ = some (HO.ins A.c_WirePacket (if s.wires.length = s.wires.length then dx else _) (fl_WirePacket (.ref (if s.wires.length = s.wires.length then o else _)) (.bl (wireOf (Sur.addW s w) s.wires.length).damaged)))
      rw [if_pos rfl, if_pos rfl, wireOf_add, if_pos rfl]
    · rw [ao, upd_ne (kn _ okL o no), ho]
      show _ = some (HO.lst (byV (wireOf (Sur.addW s w) s.wires.length).bytes))
      rw [wireOf_add, if_pos rfl]
    · rw [er]
      by_cases z : r = .wiresL
      · subst z
        rw [upd_same]
        show _ = some (HO.lst ((List.range (Sur.addW s w).wires.length).map fun j => .ref (if j = s.wires.length then x else G.ad (.wire j))))
        rw [ln, List.range_succ, List.map_append]
        congr 3
        · apply List.map_congr_left
          intro j hj
          rw [if_neg (by have := List.mem_range.mp hj; omega)]
        · simp
      · rw [upd_ne (fun y => z (h.inj r _ hr0 okL y)), h2.here r hr0]
        congr 1
        cases r with
        | wire j =>
          have hj : j ≠ s.wires.length := Nat.ne_of_lt hr0
          show HO.ins A.c_WirePacket (G.dx (.wire j)) (fl_WirePacket (.ref (G.ad (.oct j))) (.bl (wireOf s j).damaged)) = HO.ins A.c_WirePacket (if j = s.wires.length then dx else G.dx (.wire j)) (fl_WirePacket (.ref (if j = s.wires.length then o else G.ad (.oct j))) (.bl (wireOf (Sur.addW s w) j).damaged))
          rw [if_neg hj, if_neg hj, wireOf_add, if_neg hj]
        | oct j =>
          have hj : j ≠ s.wires.length := Nat.ne_of_lt hr0
          show HO.lst (byV (wireOf s j).bytes) = HO.lst (byV (wireOf (Sur.addW s w) j).bytes)
          rw [wireOf_add, if_neg hj]
        | wiresL => exact absurd rfl z
        | net => rfl
        | sitesL => rfl
        | site j => rfl
        | cp i k c => rfl
  · rw [ln, ls] at hr hr'
    rcases cut r hr with rfl | rfl | ⟨hr0, er⟩ <;> rcases cut r' hr' with rfl | rfl | ⟨hr0', er'⟩
    · rfl
    · rw [aw, ao] at z
      exact absurd z xo
    · rw [aw, er'] at z
      exact absurd z (kn r' hr0' x nx)
    · rw [ao, aw] at z
      exact absurd z.symm xo
    · rfl
    · rw [ao, er'] at z
      exact absurd z (kn r' hr0' o no)
    · rw [er, aw] at z
      exact absurd z.symm (kn r hr0 x nx)
    · rw [er, ao] at z
      exact absurd z.symm (kn r hr0 o no)
    · rw [er, er'] at z
      exact h.inj r r' hr0 hr0' z
  · refine (h2.pay i k c hi hc).ex fun a ha u hu => ?_
    rw [upd_ne (fun y => by rw [y] at ha; exact h.out .wiresL i k c okL hi hc ha)]
    exact hu
  · rw [ln, ls] at hr
    have hm' : (G.addW s.wires.length x dx o).ad r ∈ G.ps i k c := hm
    rcases cut r hr with rfl | rfl | ⟨hr0, er⟩
    · rw [aw] at hm'
      obtain ⟨u, hu⟩ := pays_known (h.pay i k c hi hc) hm'
      rw [nx] at hu
      cases hu
    · rw [ao] at hm'
      obtain ⟨u, hu⟩ := pays_known (h.pay i k c hi hc) hm'
      rw [no] at hu
      cases hu
    · rw [er] at hm'
      exact h.out r i k c hr0 hi hc hm'
  · rw [upd_ne (fun y => hob .wiresL okL y.symm)]
    exact e _ _ hb
  · rw [ln, ls] at hr
    rcases cut r hr with rfl | rfl | ⟨hr0, er⟩
    · rw [aw] at z
      rw [← z, nx] at hb
      cases hb
    · rw [ao] at z
      rw [← z, no] at hb
      cases hb
    · rw [er] at z
      exact hob r hr0 z
/-- a packet taken off the wires -/
def popW (s : Vbxlac.State) (i : Nat) : Vbxlac.State := { s with wires := s.wires.eraseIdx i }
def NG.popW (G : NG) (i : Nat) : NG :=
  ⟨fun r => match r with
    | .wire j => if j < i then G.ad (.wire j) else G.ad (.wire (j + 1))
    | .oct j => if j < i then G.ad (.oct j) else G.ad (.oct (j + 1))
    | .net => G.ad .net
    | .sitesL => G.ad .sitesL
    | .wiresL => G.ad .wiresL
    | .site j => G.ad (.site j)
    | .cp i k c => G.ad (.cp i k c),
   fun r => match r with
    | .wire j => if j < i then G.dx (.wire j) else G.dx (.wire (j + 1))
    | .net => G.dx .net
    | .sitesL => G.dx .sitesL
    | .wiresL => G.dx .wiresL
    | .site j => G.dx (.site j)
    | .cp i k c => G.dx (.cp i k c)
    | .oct j => G.dx (.oct j),
   G.ps⟩
theorem NG.popW_keeps (G : NG) (i : Nat) : Keeps G (G.popW i) := ⟨fun _ _ _ => rfl, fun _ => rfl, rfl, rfl, rfl, fun _ _ _ => rfl⟩
theorem wireOf_pop (s : Vbxlac.State) (i j : Nat) : wireOf (popW s i) j = if j < i then wireOf s j else wireOf s (j + 1) := by
  unfold wireOf popW
  show ((s.wires.eraseIdx i)[j]?).getD _ = _
  rw [List.getElem?_eraseIdx]
  split <;> rfl
def upR (i : Nat) : Role → Role
  | .wire j => .wire (if j < i then j else j + 1)
  | .oct j => .oct (if j < i then j else j + 1)
  | .net => .net
  | .sitesL => .sitesL
  | .wiresL => .wiresL
  | .site j => .site j
  | .cp i' k c => .cp i' k c
theorem popW_ad (G : NG) (i : Nat) (r : Role) : (G.popW i).ad r = G.ad (upR i r) := by
  cases r with
  | wire j =>
    show (if j < i then G.ad (.wire j) else G.ad (.wire (j + 1))) = G.ad (.wire (if j < i then j else j + 1))
    split <;> rfl
  | oct j =>
    show (if j < i then G.ad (.oct j) else G.ad (.oct (j + 1))) = G.ad (.oct (if j < i then j else j + 1))
    split <;> rfl
  | _ => rfl
theorem upR_ok {n m i : Nat} {r : Role} (h : r.ok n (m - 1)) : (upR i r).ok n m := by
  cases r with
  | wire j =>
    have hj : j < m - 1 := h
    show (if j < i then j else j + 1) < m
    split <;> omega
  | oct j =>
    have hj : j < m - 1 := h
    show (if j < i then j else j + 1) < m
    split <;> omega
  | _ => exact h
theorem upR_inj {i : Nat} {r r' : Role} (h : upR i r = upR i r') : r = r' := by
  have sh : ∀ a b : Nat, (if a < i then a else a + 1) = (if b < i then b else b + 1) → a = b := fun a b e => by
    split at e <;> split at e <;> omega
  cases r <;> cases r' <;> simp only [upR, Role.wire.injEq, Role.oct.injEq, reduceCtorEq] at h
  all_goals first
    | rfl
    | (rw [sh _ _ h])
    | (cases h; rfl)
theorem Step.popW {H : Hp} {G : NG} {s : Vbxlac.State} {i : Nat} (h : NetAt A H G s) (hi : i < s.wires.length) :
    Step A W H G s (upd H (G.ad .wiresL) (.lst (((List.range s.wires.length).map fun j => V.ref (G.ad (.wire j))).eraseIdx i))) (G.popW i) (popW s i) ∧
      Out (G.popW i) (popW s i) (G.ad (.wire i)) ∧ Out (G.popW i) (popW s i) (G.ad (.oct i)) := by
  have ln : (Sur.popW s i).wires.length = s.wires.length - 1 := by
    show (s.wires.eraseIdx i).length = _
    rw [List.length_eraseIdx_of_lt hi]
  have ls : (Sur.popW s i).sites = s.sites := rfl
  have okL : Role.wiresL.ok s.sites.length s.wires.length := trivial
  -- the old role of a new one
  have old : ∀ r, r.ok s.sites.length (s.wires.length - 1) → ∃ r0, r0.ok s.sites.length s.wires.length ∧ (G.popW i).ad r = G.ad r0 ∧ r0 ≠ .wire i ∧ r0 ≠ .oct i ∧ (r = .wiresL ↔ r0 = .wiresL) := fun r hr => by
    refine ⟨upR i r, upR_ok hr, popW_ad G i r, ?_, ?_, ?_⟩
    · cases r <;> simp [upR]
      split <;> omega
    · cases r <;> simp [upR]
      split <;> omega
    · cases r <;> simp [upR]
  have inj0 : ∀ r r', r.ok s.sites.length (s.wires.length - 1) → r'.ok s.sites.length (s.wires.length - 1) → (G.popW i).ad r = (G.popW i).ad r' → r = r' := by
    intro r r' hr hr' z
    rw [popW_ad, popW_ad] at z
    exact upR_inj (h.inj _ _ (upR_ok hr) (upR_ok hr') z)
  refine ⟨⟨⟨fun r hr => ?_, fun r r' hr hr' z => ?_, fun i' k c hi' hc => ?_, fun r i' k c hr hi' hc hm => ?_⟩, rfl, fun b u hb hob => ⟨?_, fun r hr z => ?_⟩, dom_upd (Ex.refl H), fun a hz => .inl hz⟩, fun r hr z => ?_, fun r hr z => ?_⟩
  · rw [ln, ls] at hr
    by_cases z : r = .wiresL
    · subst z
      show (upd H (G.ad .wiresL) _) (G.ad .wiresL) = some (HO.lst ((List.range (Sur.popW s i).wires.length).map fun j => .ref (if j < i then G.ad (.wire j) else G.ad (.wire (j + 1)))))
      rw [upd_same, ln]
      congr 2
      apply List.ext_getElem?
      intro j
      rw [List.getElem?_eraseIdx]
      by_cases hj : j < s.wires.length - 1
      · rw [range_at hj]
        by_cases y : j < i
        · rw [if_pos y, if_pos y, range_at (by omega)]
        · rw [if_neg y, if_neg y, range_at (by omega)]
      · rw [List.getElem?_eq_none (l := (List.range (s.wires.length - 1)).map _) (by simp; omega)]
        by_cases y : j < i
        · omega
        · rw [if_neg y]
          exact List.getElem?_eq_none (by simp; omega)
    · obtain ⟨r0, hr0, er, _, _, hw⟩ := old r hr
      rw [er, upd_ne (fun y => z (hw.mpr (h.inj r0 _ hr0 okL y)))]
      cases r with
      | wire j =>
        by_cases y : j < i
        · have e0 : (G.popW i).ad (.wire j) = G.ad (.wire j) := if_pos y
          rw [← er, e0, h.here (.wire j) (by have : j < s.wires.length - 1 := hr; show j < _; omega)]
          show some (HO.ins A.c_WirePacket (G.dx (.wire j)) (fl_WirePacket (.ref (G.ad (.oct j))) (.bl (wireOf s j).damaged))) = some (HO.ins A.c_WirePacket (if j < i then G.dx (.wire j) else G.dx (.wire (j + 1))) (fl_WirePacket (.ref (if j < i then G.ad (.oct j) else G.ad (.oct (j + 1)))) (.bl (wireOf (Sur.popW s i) j).damaged)))
          rw [if_pos y, if_pos y, wireOf_pop, if_pos y]
        · have e0 : (G.popW i).ad (.wire j) = G.ad (.wire (j + 1)) := if_neg y
          rw [← er, e0, h.here (.wire (j + 1)) (by have : j < s.wires.length - 1 := hr; show j + 1 < _; omega)]
          show some (HO.ins A.c_WirePacket (G.dx (.wire (j + 1))) (fl_WirePacket (.ref (G.ad (.oct (j + 1)))) (.bl (wireOf s (j + 1)).damaged))) = some (HO.ins A.c_WirePacket (if j < i then G.dx (.wire j) else G.dx (.wire (j + 1))) (fl_WirePacket (.ref (if j < i then G.ad (.oct j) else G.ad (.oct (j + 1)))) (.bl (wireOf (Sur.popW s i) j).damaged)))
          rw [if_neg y, if_neg y, wireOf_pop, if_neg y]
      | oct j =>
        by_cases y : j < i
        · have e0 : (G.popW i).ad (.oct j) = G.ad (.oct j) := if_pos y
          rw [← er, e0, h.here (.oct j) (by have : j < s.wires.length - 1 := hr; show j < _; omega)]
          show some (HO.lst (byV (wireOf s j).bytes)) = some (HO.lst (byV (wireOf (Sur.popW s i) j).bytes))
          rw [wireOf_pop, if_pos y]
        · have e0 : (G.popW i).ad (.oct j) = G.ad (.oct (j + 1)) := if_neg y
          rw [← er, e0, h.here (.oct (j + 1)) (by have : j < s.wires.length - 1 := hr; show j + 1 < _; omega)]
          show some (HO.lst (byV (wireOf s (j + 1)).bytes)) = some (HO.lst (byV (wireOf (Sur.popW s i) j).bytes))
          rw [wireOf_pop, if_neg y]
      | wiresL => exact absurd rfl z
      | net =>
        rw [← er]
        exact h.here .net trivial
      | sitesL =>
        rw [← er]
        exact h.here .sitesL trivial
      | site j =>
        rw [← er]
        exact h.here (.site j) hr
      | cp i' k c =>
        rw [← er]
        exact h.here (.cp i' k c) hr
  · rw [ln, ls] at hr hr'
    exact inj0 r r' hr hr' z
  · refine (h.pay i' k c hi' hc).ex fun a ha u hu => ?_
    rw [upd_ne (fun y => by rw [y] at ha; exact h.out .wiresL i' k c okL hi' hc ha)]
    exact hu
  · rw [ln, ls] at hr
    obtain ⟨r0, hr0, er, _⟩ := old r hr
    have hm' : (G.popW i).ad r ∈ G.ps i' k c := hm
    rw [er] at hm'
    exact h.out r0 i' k c hr0 hi' hc hm'
  · rw [upd_ne (fun y => hob .wiresL okL y.symm)]
    exact hb
  · rw [ln, ls] at hr
    obtain ⟨r0, hr0, er, _⟩ := old r hr
    rw [er] at z
    exact hob r0 hr0 z
  · rw [ln, ls] at hr
    obtain ⟨r0, hr0, er, n1, n2, _⟩ := old r hr
    rw [er] at z
    exact n1 (h.inj r0 (.wire i) hr0 hi z)
  · rw [ln, ls] at hr
    obtain ⟨r0, hr0, er, n1, n2, _⟩ := old r hr
    rw [er] at z
    exact n2 (h.inj r0 (.oct i) hr0 hi z)
end Sur
namespace Sur
open PySem PySem.Spec PyProof.Rows L2 Evl
variable {P : Program} {w : World} {K : PySem.W.Frag} {mg : Str → Option Value} {base : Heap} {A : Ads} {W : Addr → Prop}
/-! ## Twins, packets put on the wires, transmitting, a message looked for -/
def sp_WirePacket_twin (K : PySem.W.Frag) (A : Ads) : Sp := fun vs H Q _ => ∃ (G : NG) (s : Vbxlac.State) (j : Nat), vs = [.ref (G.ad (.wire j))] ∧ NetAt A H G s ∧ j < s.wires.length ∧
  ∀ x dx o H2, H x = none → H o = none → x ≠ o → Ex H H2 → H2 x = some (.ins A.c_WirePacket dx (fl_WirePacket (.ref o) (.bl (wireOf s j).damaged))) → H2 o = some (.lst (byV (wireOf s j).bytes)) → Q (.ref x) H2
theorem len_WirePacket_twin : ∀ vs H Q E, sp_WirePacket_twin K A vs H Q E → vs.length = (["self"] : List Str).length := by
  rintro vs H Q E ⟨G, s, j, rfl, _⟩
  rfl
def t_WirePacket_twin (K : PySem.W.Frag) (A : Ads) : TS :=
 tRet (tMake A.c_WirePacket (sp_WirePacket_init K A) [] E0 (tCons (tCB (rListS K) (tCons (tFld K (tVar 0) "octets") (tNil))) (tCons (tFld K (tVar 0) "damaged") (tNil))))
theorem pure_WirePacket_twin (T : Txt K mg A) (vs : List V) (H : Hp) (Q : VK) (E : XK) (h : sp_WirePacket_twin K A vs H Q E) : t_WirePacket_twin K A { nx := fun _ H' => Q .non H', rt := Q } (start ["self"] vs) H := by
  obtain ⟨G, s, j, rfl, hN, hj, k⟩ := h
  refine s_tRet (el_list (ev_octets T hN hj (ev_var rfl)) (sq_of (hN.here (.oct j) hj)) H (Ex.refl H) _ fun o H1 no e1 h1 => ?_)
  refine ev_damaged T (hN.ex e1) hj (ev_var rfl) H1 (Ex.refl H1) _ fun H2 e2 => ?_
  intro x dx nx nd ne
  refine ⟨x, dx, _, _, rfl, upd_same, rfl, ?_⟩
  have xo : x ≠ o := fun z => by have := e2 _ _ h1; rw [← z, nx] at this; cases this
  have e3 := made_ex' (C := A.c_WirePacket) (o := .ins A.c_WirePacket dx (fl_WirePacket (.ref o) (.bl (wireOf s j).damaged))) nx nd
  exact k x dx o _ (fresh_back (e1.trans e2) nx) no xo ((e1.trans e2).trans e3) upd_same (e3 _ _ (e2 _ _ h1))
/-- an expression that makes a packet -/
def EvPk (A : Ads) (te : TE) (σ : L2.St) (H : Hp) (p : Vbxlac.Packet) : Prop := ∀ H1, Ex H H1 → ∀ Q : VK, (∀ q pl H2, Ex H1 H2 → H1 q = none → PktAt A H2 q p pl → Q (.ref q) H2) → te σ H1 Q
section
variable {σ : L2.St} {H : Hp} {t1 t2 t3 t4 t5 : TE} {k a b n : Nat} {m : List Nat} {pl : Addr}
theorem evpk_old (h1 : Ev t1 σ H (.int (k : Int))) (h2 : Ev t2 σ H (.int (a : Int))) (h3 : Ev t3 σ H (.int (b : Int))) (h4 : Ev t4 σ H (.int (n : Int))) (h5 : Ev t5 σ H (.ref pl)) (hp : H pl = some (.lst (byV m))) :
    EvPk A (tMake A.c_Packet (sp_Packet_init K A) [] E0 (tCons t1 (tCons t2 (tCons t3 (tCons t4 (tCons t5 tNil)))))) σ H ⟨k, a, b, n, m⟩ := fun H1 e Q q =>
  ei_make (fs := fl_Packet (.int (k : Int)) (.int (a : Int)) (.int (b : Int)) (.int (n : Int)) (.ref pl)) (ea_cons h1 (ea_cons h2 (ea_cons h3 (ea_cons h4 (ea_cons h5 ea_nil))))) (fun p dx H Q E hp hq => ⟨p, dx, _, _, _, _, _, rfl, hp, hq⟩) H1 e Q fun x dx H2 nx e2 h2 => q x pl H2 e2 nx ⟨⟨dx, h2⟩, e2 _ _ (e _ _ hp)⟩
theorem evpk_new (h1 : Ev t1 σ H (.int (k : Int))) (h2 : Ev t2 σ H (.int (a : Int))) (h3 : Ev t3 σ H (.int (b : Int))) (h4 : Ev t4 σ H (.int (n : Int))) :
    EvPk A (tMake A.c_Packet (sp_Packet_init K A) [] E0 (tCons t1 (tCons t2 (tCons t3 (tCons t4 (tCons (tLst tNil) tNil)))))) σ H ⟨k, a, b, n, []⟩ := fun H1 e Q q =>
  h1 H1 e _ fun H2 e2 => h2 H2 (e.trans e2) _ fun H3 e3 => h3 H3 ((e.trans e2).trans e3) _ fun H4 e4 => h4 H4 (((e.trans e2).trans e3).trans e4) _ fun H5 e5 => by
    refine ⟨by decide, fun l nl => fun x dx nx nd ne => ⟨x, dx, _, _, _, _, _, rfl, upd_same, rfl, ?_⟩⟩
    have e6 : Ex H1 (upd H5 l (.lst [])) := (((e2.trans e3).trans e4).trans e5).trans (Ex.new nl)
    have e7 := made_ex' (C := A.c_Packet) (o := .ins A.c_Packet dx (fl_Packet (.int (k : Int)) (.int (a : Int)) (.int (b : Int)) (.int (n : Int)) (.ref l))) nx nd
    exact q x l _ (e6.trans e7) (fresh_back e6 nx) ⟨⟨dx, upd_same⟩, e7 _ _ upd_same⟩
end
def sp_put_on_wires (K : PySem.W.Frag) (A : Ads) : Sp := fun vs H Q _ => ∃ (W : Addr → Prop) (G : NG) (s : Vbxlac.State) (q pl : Addr) (p : Vbxlac.Packet), vs = [.ref (G.ad .net), .ref q] ∧ NetAt A H G s ∧ PktAt A H q p pl ∧ p.payload.length ≤ 1000 ∧ s.wires.length ≤ 1000000 ∧
  ∀ G' H', Step A W H G s H' G' (addW s ⟨Vbxlac.writePacket p, false⟩) → Keeps G G' → Q .non H'
theorem len_put_on_wires : ∀ vs H Q E, sp_put_on_wires K A vs H Q E → vs.length = (["network", "packet"] : List Str).length := by
  rintro vs H Q E ⟨W, G, s, q, pl, p, rfl, _⟩
  rfl
def t_put_on_wires (K : PySem.W.Frag) (A : Ads) : TS :=
 tDrop (tBM K "list" rAppend (tFld K (tVar 0) "wires") (tCons (tMake A.c_WirePacket (sp_WirePacket_init K A) [] E0 (tCons (tCall (sp_octets_of K A) [] E0 (tCons (tVar 1) (tNil))) (tCons (tC (.bl false)) (tNil)))) (tNil)))
theorem pure_put_on_wires (T : Txt K mg A) (vs : List V) (H : Hp) (Q : VK) (E : XK) (h : sp_put_on_wires K A vs H Q E) : t_put_on_wires K A { nx := fun _ H' => Q .non H', rt := Q } (start ["network", "packet"] vs) H := by
  obtain ⟨W, G, s, q, pl, p, rfl, hN, hp, hz, hw, k⟩ := h
  refine s_tDrop (ev_wires T hN (ev_var rfl) H (Ex.refl H) _ fun H1 e1 => ⟨Or.inl ⟨rfl, _, sq_wires (hN.ex e1)⟩, ?_⟩)
  refine el_call (ea_cons (ev_var rfl) ea_nil) (sl_octets_of (hp.ex e1) hz) H1 (Ex.refl H1) _ fun o H2 no e2 h2 => ?_
  intro x dx nx nd ne
  refine ⟨x, dx, _, _, rfl, upd_same, rfl, ?_⟩
  have xo : x ≠ o := fun z => by rw [← z, nx] at h2; cases h2
  have e12 := e1.trans e2
  have e3 := made_ex' (C := A.c_WirePacket) (o := .ins A.c_WirePacket dx (fl_WirePacket (.ref o) (.bl false))) nx nd
  refine ⟨G.ad .wiresL, _, .ref x, rfl, rfl, (hN.ex (e12.trans e3)).here .wiresL trivial, ?_, ?_⟩
  · rw [List.length_map, List.length_range]
    exact Nat.lt_of_le_of_lt hw (by decide)
  · exact k _ _ (Step.addW hN (e12.trans e3) (fresh_back e12 nx) (fresh_back e1 no) xo upd_same (e3 _ _ h2)) (NG.addW_keeps _ _ _ _ _)
theorem call_put (T : Txt K mg A) {σ : L2.St} {H : Hp} {Q : VK} {t0 tP : TE} {G : NG} {s : Vbxlac.State} {p : Vbxlac.Packet} (h0 : Ev t0 σ H (.ref (G.ad .net))) (hP : EvPk A tP σ H p) (hN : NetAt A H G s) (hz : p.payload.length ≤ 1000) (hw : s.wires.length ≤ 1000000)
    (k : ∀ G' H', Step A W H G s H' G' (addW s ⟨Vbxlac.writePacket p, false⟩) → Keeps G G' → Q .non H') : tCall (sp_put_on_wires K A) [] E0 (tCons t0 (tCons tP tNil)) σ H Q :=
  h0 H (Ex.refl H) _ fun H1 e1 => hP H1 e1 _ fun q pl H2 e2 nq hq => ⟨W, G, s, q, pl, p, rfl, hN.ex (e1.trans e2), hq, hz, hw, fun G' H' st kp => k G' H' (st.left (e1.trans e2)) kp⟩
/-! ### transmitting -/
def msgPk (s : Vbxlac.State) (a b : Nat) : List Vbxlac.Packet := (((ld s a b).sent.zipIdx 1).drop (ld s a b).acknowledged).map fun m => ⟨1, a, b, m.2, m.1⟩
def addWs (s : Vbxlac.State) (ps : List Vbxlac.Packet) : Vbxlac.State := { s with wires := s.wires ++ ps.map fun p => ⟨Vbxlac.writePacket p, false⟩ }
theorem addWs_snoc (s : Vbxlac.State) (ps : List Vbxlac.Packet) (p : Vbxlac.Packet) : addW (addWs s ps) ⟨Vbxlac.writePacket p, false⟩ = addWs s (ps ++ [p]) := by
  unfold addW addWs
  simp
theorem msgPk_at {s : Vbxlac.State} {a b i : Nat} (h : (ld s a b).acknowledged + i < (ld s a b).sent.length) : (msgPk s a b)[i]? = some ⟨1, a, b, (ld s a b).acknowledged + i + 1, (ld s a b).sent[(ld s a b).acknowledged + i]⟩ := by
  unfold msgPk
  rw [List.getElem?_map, List.getElem?_drop, List.getElem?_zipIdx, List.getElem?_eq_getElem h]
  simp
  omega
theorem msgPk_len (s : Vbxlac.State) (a b : Nat) : (msgPk s a b).length = (ld s a b).sent.length - (ld s a b).acknowledged := by
  unfold msgPk
  simp
theorem transmit_is (s : Vbxlac.State) (a b : Nat) : Vbxlac.transmit s a b = addWs s (msgPk s a b ++ [⟨2, a, b, (ld s a b).received.length, []⟩]) := rfl
theorem take_snoc {α : Type} {l : List α} {i : Nat} {x : α} (h : l[i]? = some x) : l.take (i + 1) = l.take i ++ [x] := by
  rw [List.take_succ, h] <;> rfl
def sp_transmit_durable (K : PySem.W.Frag) (A : Ads) : Sp := fun vs H Q _ => ∃ (W : Addr → Prop) (G : NG) (s : Vbxlac.State) (a b : Nat), vs = [.ref (G.ad .net), .int (a : Int), .int (b : Int)] ∧ NetAt A H G s ∧ Sites s ∧ 1 ≤ a ∧ a ≤ s.sites.length ∧ 1 ≤ b ∧ b ≤ s.sites.length ∧ s.wires.length ≤ 500000 ∧
  RetStep A W H G s (Vbxlac.transmit s a b) [(((ld s a b).sent.length - (ld s a b).acknowledged : Nat) : Int), ((ld s a b).received.length : Int)] Q
theorem len_transmit_durable : ∀ vs H Q E, sp_transmit_durable K A vs H Q E → vs.length = (["network", "sender", "receiver"] : List Str).length := by
  rintro vs H Q E ⟨W, G, s, a, b, rfl, _⟩
  rfl
def t_transmit_durable (K : PySem.W.Frag) (A : Ads) : TS :=
 tSeq (tAsg (tFld K (tMeth A.c_Network "site" (sp_Network_site K A) [] E0 (tVar 0) (tCons (tVar 1) (tNil))) "durable") (gName 3))
 (tSeq (tAsg (tOp (rIxL K) (tFld K (tVar 3) "sent") (tVar 2)) (gName 4))
 (tSeq (tAsg (tOp (rIxL K) (tFld K (tVar 3) "acknowledged") (tVar 2)) (gName 5))
 (tSeq (tAsg (tCB (rLenS K) (tCons (tOp (rIxL K) (tFld K (tVar 3) "received") (tVar 2)) (tNil))) (gName 6))
 (tSeq (tFor (iRng2 (tCons (tVar 5) (tCons (tCB (rLenS K) (tCons (tVar 4) (tNil))) (tNil)))) (gName 7)
 (tDrop (tCall (sp_put_on_wires K A) [] E0 (tCons (tVar 0) (tCons (tMake A.c_Packet (sp_Packet_init K A) [] E0 (tCons (tC (.int (1))) (tCons (tVar 1) (tCons (tVar 2) (tCons (tOp rPlus (tVar 7) (tC (.int 1))) (tCons (tOp (rIxL K) (tVar 4) (tVar 7)) (tNil))))))) (tNil))))))
 (tSeq (tDrop (tCall (sp_put_on_wires K A) [] E0 (tCons (tVar 0) (tCons (tMake A.c_Packet (sp_Packet_init K A) [] E0 (tCons (tC (.int (2))) (tCons (tVar 1) (tCons (tVar 2) (tCons (tVar 6) (tCons (tLst (tNil)) (tNil))))))) (tNil)))))
 (tRet (tLst (tCons (tOp rMinus (tCB (rLenS K) (tCons (tVar 4) (tNil))) (tVar 5)) (tCons (tVar 6) (tNil))))))))))
theorem pure_transmit_durable (T : Txt K mg A) (vs : List V) (H : Hp) (Q : VK) (E : XK) (h : sp_transmit_durable K A vs H Q E) : t_transmit_durable K A { nx := fun _ H' => Q .non H', rt := Q } (start ["network", "sender", "receiver", "durable", "sent", "acknowledged", "up_to", "place"] vs) H := by
  obtain ⟨W, G, s, a, b, rfl, hN, hS, ha, ha2, hb, hb2, hw, k⟩ := h
  have hi : a - 1 < s.sites.length := by omega
  have cd := hN.copy hS.links (k := true) hi
  have el : plc (linksOf s (a - 1) true) b = ld s a b := by
    rw [plc_pos hb]
    show Vbxlac.linkAt (Vbxlac.siteAt s (a - 1 + 1)).durable b = _
    rw [show a - 1 + 1 = a by omega] <;> rfl
  have hk : (ld s a b).acknowledged ≤ (ld s a b).sent.length := hS.ackD_le a b
  have h60 : (ld s a b).sent.length ≤ 60 := hS.sentD60 a b
  have eq0 : ∀ (i : Nat) (l : List Nat), (ld s a b).sent[i]? = some l → l.length ≤ 1000 := fun i l hl => Nat.le_trans (hS.payD a b l (List.mem_of_getElem? hl)).1 (by decide)
  refine q_asg (v := .ref ((G.cg (a - 1) true).ad .self)) (ev_durable T hN hi (ev_site T hN ha ha2 (ev_var rfl) (ev_var rfl))) fun H1 e1 => ?_
  refine q_asg (v := .ref ((G.cg (a - 1) true).ad (.sent b))) (ev_sentAt T (cd.ex e1) hb2 (ev_var rfl) (ev_var rfl)) fun H2 e2 => ?_
  have e12 := e1.trans e2
  refine q_asg (v := .int ((ld s a b).acknowledged : Int)) (ev_is (ev_ackAt T (cd.ex e12) hb2 (ev_var rfl) (ev_var rfl)) (by rw [el])) fun H3 e3 => ?_
  have e13 := e12.trans e3
  refine q_asg (v := .int ((ld s a b).received.length : Int)) (ev_is (ev_len (ev_recAt T (cd.ex e13) hb2 (ev_var rfl) (ev_var rfl)) (sq_recv (cd.ex e13) hb2)) (by rw [List.length_map, len_recv (cd.ex e13) hb2, el])) fun H4 e4 => ?_
  have e14 := e13.trans e4
  have cd4 := cd.ex e14
  have ls : ∀ {H' : Hp} {σ : L2.St}, CopyAt A H' s.sites.length (G.cg (a - 1) true) (linksOf s (a - 1) true) → σ[4]? = some (some (.ref ((G.cg (a - 1) true).ad (.sent b)))) → Ev (tCB (rLenS K) (tCons (tVar 4) tNil)) σ H' (.int ((ld s a b).sent.length : Int)) := fun {H' σ} c h => ev_is (ev_len (ev_var h) (sq_sent c hb2)) (by rw [List.length_map, len_sent c hb2, el])
  -- the durable copy stands in every state with the same sites
  have stay : ∀ {H' : Hp} {G' : NG} {ps : List Vbxlac.Packet}, NetAt A H' G' (addWs s ps) → Keeps G G' → CopyAt A H' s.sites.length (G.cg (a - 1) true) (linksOf s (a - 1) true) := fun {H' G' ps} h kp => by
    have c := h.copy (s := addWs s ps) (k := true) (Sites.links (hS.of_sites rfl)) hi
    rw [kp.cg] at c
    exact c
  -- a state behind i of the messages
  refine q_forR2 (lo := ((ld s a b).acknowledged : Int)) (n := ((ld s a b).sent.length : Int)) (ea_cons (ev_var rfl) (ea_cons (ls cd4 rfl) ea_nil)) (by omega)
    (fun i σ' H' => (ld s a b).acknowledged + i ≤ (ld s a b).sent.length ∧ ∃ G' x, Step A W H G s H' G' (addWs s ((msgPk s a b).take i)) ∧ Keeps G G' ∧ σ' = [some (.ref (G.ad .net)), some (.int (a : Int)), some (.int (b : Int)), some (.ref ((G.cg (a - 1) true).ad .self)), some (.ref ((G.cg (a - 1) true).ad (.sent b))), some (.int ((ld s a b).acknowledged : Int)), some (.int ((ld s a b).received.length : Int)), x])
    (fun H5 e5 => ⟨hk, G, none, ?_, Keeps.refl G, rfl⟩) (fun i σ' H' hi' ⟨hle, G', x, st, kp, eσ⟩ => ?_) (fun σ' H' ⟨hle, G', x, st, kp, eσ⟩ => ?_)
  · have : addWs s ((msgPk s a b).take 0) = s := by unfold addWs; simp
    rw [this]
    exact Step.ofEx hN (e14.trans e5)
  · subst eσ
    have hlt : (ld s a b).acknowledged + i < (ld s a b).sent.length := by omega
    have c := stay st.1 kp
    have pa : ((G.cg (a - 1) true).ps (.sent b)).length = (ld s a b).sent.length := by rw [len_sent c hb2, el]
    have pg : ((G.cg (a - 1) true).ps (.sent b))[(ld s a b).acknowledged + i]? = some (((G.cg (a - 1) true).ps (.sent b)).getD ((ld s a b).acknowledged + i) 0) := getD_here (by omega)
    have pH : H' (((G.cg (a - 1) true).ps (.sent b)).getD ((ld s a b).acknowledged + i) 0) = some (.lst (byV ((ld s a b).sent[(ld s a b).acknowledged + i]))) := by
      refine (c.pay (.sent b) hb2).2 _ _ _ pg ?_
      show (plc (linksOf s (a - 1) true) b).sent[(ld s a b).acknowledged + i]? = _
      rw [el, List.getElem?_eq_getElem hlt]
    refine s_tDrop (call_put (W := W) T (G := G') (s := addWs s ((msgPk s a b).take i)) (p := ⟨1, a, b, (ld s a b).acknowledged + i + 1, (ld s a b).sent[(ld s a b).acknowledged + i]⟩) (by rw [kp.net]; exact ev_var rfl)
      (evpk_old ev_c (ev_var rfl) (ev_var rfl) (ev_is (ev_op (ev_var rfl) ev_c rv_I0) (by congr 1)) (ev_ixL (j := (ld s a b).acknowledged + i) (ev_var rfl) (ev_is (ev_var rfl) (by congr 1)) (sq_sent c hb2) (by rw [List.getElem?_map, pg] <;> rfl)) pH) st.1 ?_ ?_ fun G2 H2 st2 kp2 => ?_)
    · exact eq0 _ _ (List.getElem?_eq_getElem hlt)
    · show (s.wires ++ _).length ≤ _
      rw [List.length_append, List.length_map, List.length_take, msgPk_len]
      omega
    · refine ⟨by omega, G2, _, st.trans ?_, kp.trans kp2, rfl⟩
      rw [addWs_snoc, ← take_snoc (msgPk_at hlt)] at st2
      exact st2
  · subst eσ
    have ein : (((ld s a b).sent.length : Int) - ((ld s a b).acknowledged : Int)).toNat = (msgPk s a b).length := by rw [msgPk_len]; omega
    rw [ein, List.take_length] at st
    refine q_tDrop (call_put (W := W) T (G := G') (s := addWs s (msgPk s a b)) (p := ⟨2, a, b, (ld s a b).received.length, []⟩) (by rw [kp.net]; exact ev_var rfl) (evpk_new ev_c (ev_var rfl) (ev_var rfl) (ev_var rfl)) st.1 (Nat.zero_le _) ?_ fun G2 H2 st2 kp2 => ?_)
    · show (s.wires ++ _).length ≤ _
      rw [List.length_append, List.length_map, msgPk_len]
      omega
    · rw [addWs_snoc, ← transmit_is] at st2
      have stA := st.trans st2
      have c2 := stay (ps := msgPk s a b ++ [⟨2, a, b, (ld s a b).received.length, []⟩]) (by rw [← transmit_is]; exact st2.1) (kp.trans kp2)
      refine s_retL (xs := ansV [(((ld s a b).sent.length - (ld s a b).acknowledged : Nat) : Int), ((ld s a b).received.length : Int)]) (el_lst (ea_cons (ev_is (ev_op (ls c2 rfl) (ev_var rfl) rv_I0) (by congr 1; omega)) (ea_cons (ev_var rfl) ea_nil)) (by show 2 ≤ 100000; decide)) fun q H3 nq e3 h3 => ?_
      exact k q G2 H3 (stA.right e3) (stA.fresh nq) (stA.1.fresh nq) h3
end Sur
namespace Sur
open PySem PySem.Spec PyProof.Rows L2 Evl
variable {P : Program} {w : World} {K : PySem.W.Frag} {mg : Str → Option Value} {base : Heap} {A : Ads} {W : Addr → Prop}
/-! ## Packets looked at, taken, delivered -/
theorem q_packet {σ : L2.St} {H : Hp} {te : TE} {D : Ends} {tz : TS} {i : Nat} {a : Addr} {bs : List Nat} (h : Ev te σ H (.ref a)) (hs : SqL K H a (byV bs)) (hb : ∀ x ∈ bs, x < 256) (hz : bs.length ≤ 1000)
    (k1 : Vbxlac.readPacket bs = none → ∀ H1, Ex H H1 → tz D (σ.set i (some .non)) H1) (k2 : ∀ p, Vbxlac.readPacket bs = some p → ∀ q pl H1, H q = none → H pl = none → Ex H H1 → PktAt A H1 q p pl → tz D (σ.set i (some (.ref q))) H1) :
    tSeq (tAsg (tCall (sp_packet_of K A) [] E0 (tCons te tNil)) (gName i)) tz D σ H :=
  h H (Ex.refl H) _ fun H1 e1 => ⟨a, bs, rfl, ex_l e1 hs, hb, hz, fun e H2 e2 => k1 e H2 (e1.trans e2), fun p e q pl H2 nq np e2 hp => k2 p e q pl H2 (fresh_back e1 nq) (fresh_back e1 np) (e1.trans e2) hp⟩
theorem Good.wire {k : Nat} {s : Vbxlac.State} (h : Good k s) {j : Nat} (hj : j < s.wires.length) : WireOk s (wireOf s j) := by
  unfold wireOf
  rw [List.getElem?_eq_getElem hj]
  exact h.wires _ (List.getElem_mem hj)
def hits (a b : Nat) (w : Vbxlac.WirePacket) : Bool := (Vbxlac.readPacket w.bytes).any fun p => p.kind == 1 && (p.sender == a && p.receiver == b)
theorem any_range (l : List Vbxlac.WirePacket) (f : Vbxlac.WirePacket → Bool) (s : Vbxlac.State) (hs : s.wires = l) (h : ∀ j, j < l.length → f (wireOf s j) = false) : l.any f = false := by
  rw [List.any_eq_false]
  intro w hw
  obtain ⟨j, hj⟩ := List.mem_iff_getElem?.mp hw
  have jl := (List.getElem?_eq_some_iff.mp hj).1
  have e : wireOf s j = w := by unfold wireOf; rw [hs, hj] <;> rfl
  rw [← e, h j jl]
  exact Bool.false_ne_true
theorem any_hit (s : Vbxlac.State) (f : Vbxlac.WirePacket → Bool) {j : Nat} (hj : j < s.wires.length) (h : f (wireOf s j) = true) : s.wires.any f = true := by
  rw [List.any_eq_true]
  refine ⟨wireOf s j, ?_, h⟩
  unfold wireOf
  rw [List.getElem?_eq_getElem hj]
  exact List.getElem_mem hj
def sp_has_message (K : PySem.W.Frag) (A : Ads) : Sp := fun vs H Q _ => ∃ (G : NG) (s : Vbxlac.State) (a b : Nat), vs = [.ref (G.ad .net), .int (a : Int), .int (b : Int)] ∧ NetAt A H G s ∧ (∀ w ∈ s.wires, WireOk s w) ∧ ∀ H2, Ex H H2 → Q (.bl (Vbxlac.isOnWires s a b)) H2
theorem len_has_message : ∀ vs H Q E, sp_has_message K A vs H Q E → vs.length = (["network", "sender", "receiver"] : List Str).length := by
  rintro vs H Q E ⟨G, s, a, b, rfl, _⟩
  rfl
def t_has_message (K : PySem.W.Frag) (A : Ads) : TS :=
 tSeq (tFor (iList K (tFld K (tVar 0) "wires")) (gName 3)
 (tSeq (tAsg (tCall (sp_packet_of K A) [] E0 (tCons (tFld K (tVar 3) "octets") (tNil))) (gName 4))
 (tIfS (tAnd (tTest (tOp (rNotN) (tVar 4) (tC .non))) (tTest (tOp (rEq) (tFld K (tVar 4) "kind") (tC (.int (1))))))
 (tIfS (tAnd (tTest (tOp (rEq) (tFld K (tVar 4) "sender") (tVar 1))) (tTest (tOp (rEq) (tFld K (tVar 4) "receiver") (tVar 2))))
 (tRet (tC (.bl true)))
 (tNext))
 (tNext))))
 (tRet (tC (.bl false)))
theorem pure_has_message (T : Txt K mg A) (vs : List V) (H : Hp) (Q : VK) (E : XK) (h : sp_has_message K A vs H Q E) : t_has_message K A { nx := fun _ H' => Q .non H', rt := Q } (start ["network", "sender", "receiver", "carried", "packet"] vs) H := by
  obtain ⟨G, s, a, b, rfl, hN, hW, k⟩ := h
  refine q_forLn (ev_wires T hN (ev_var rfl)) (sq_wires hN) (fun i σ' H' => Ex H H' ∧ (∀ j, j < i → hits a b (wireOf s j) = false) ∧ ∃ x y, σ' = [some (.ref (G.ad .net)), some (.int (a : Int)), some (.int (b : Int)), x, y]) (fun H1 e1 => ⟨e1, fun j hj => absurd hj (Nat.not_lt_zero _), none, none, rfl⟩) (fun i σ' H' _ ⟨e, _⟩ => ex_l e (sq_wires hN)) ?_ ?_
  · rintro i v σ' H' hi ⟨e, hno, x, y, rfl⟩
    obtain ⟨hil, rfl⟩ := at_range hi
    have hN' := hN.ex e
    have ok : WireOk s (wireOf s i) := by
      unfold wireOf
      rw [List.getElem?_eq_getElem hil]
      exact hW _ (List.getElem_mem hil)
    have next : ∀ {σ2 : L2.St} {H2 : Hp}, Ex H' H2 → hits a b (wireOf s i) = false → (∃ x y, σ2 = [some (.ref (G.ad .net)), some (.int (a : Int)), some (.int (b : Int)), x, y]) →
        (Ex H H2 ∧ (∀ j, j < i + 1 → hits a b (wireOf s j) = false) ∧ ∃ x y, σ2 = [some (.ref (G.ad .net)), some (.int (a : Int)), some (.int (b : Int)), x, y]) := fun {σ2 H2} e2 hh hσ => ⟨e.trans e2, fun j hj => by
      by_cases z : j = i
      · rw [z]; exact hh
      · exact hno j (by omega), hσ⟩
    refine q_packet (ev_octets T hN' hil (ev_var rfl)) (sq_of (hN'.here (.oct i) hil)) ok.ok.lt (Nat.le_trans ok.ok.len (by decide)) (fun hr H1 e1 => ?_) (fun p hr q pl H1 nq np e1 hp => ?_)
    · refine s_when (b := false) (et_is (et_and (a := false) (b := false) (et_is (et_test (ev_op (ev_var (v := .non) rfl) ev_c rv_notN)) (by simp)) (fun z => by cases z)) rfl) (fun z => by cases z) fun _ H2 e2 => ?_
      exact next (e1.trans e2) (by unfold hits; rw [hr] <;> rfl) ⟨_, _, rfl⟩
    · have hh : hits a b (wireOf s i) = (p.kind == 1 && (p.sender == a && p.receiver == b)) := by unfold hits; rw [hr] <;> rfl
      refine s_when (b := decide (V.int (p.kind : Int) = V.int 1)) (et_and (a := true) (et_test (ev_op (ev_var rfl) ev_c rv_notN)) (fun _ => et_test (ev_op (pk_kind T hp (ev_var rfl)) ev_c (rv_eq rfl)))) (fun hb H2 e2 => ?_) (fun hb H2 e2 => ?_)
      · have hk : p.kind = 1 := by have := vint_eq hb; omega
        have hp2 := hp.ex e2
        refine s_when (b := decide (V.int (p.sender : Int) = V.int (a : Int)) && decide (V.int (p.receiver : Int) = V.int (b : Int))) (et_and (et_test (ev_op (pk_sender T hp2 (ev_var rfl)) (ev_var rfl) (rv_eq rfl))) (fun _ => et_test (ev_op (pk_receiver T hp2 (ev_var rfl)) (ev_var rfl) (rv_eq rfl)))) (fun hc H3 e3 => ?_) (fun hc H3 e3 => ?_)
        · refine s_ret ev_c fun H4 e4 => ?_
          have e' : Vbxlac.isOnWires s a b = true := any_hit s (hits a b) hil (by
            rw [hh, hk]
            rw [dec_vint, dec_vint] at hc
            simp at hc
            have h1 : p.sender = a := by omega
            have h2 : p.receiver = b := by omega
            simp [h1, h2])
          rw [← e']
          exact k H4 ((((e.trans e1).trans e2).trans e3).trans e4)
        · refine next ((e1.trans e2).trans e3) ?_ ⟨_, _, rfl⟩
          rw [hh, hk]
          rw [dec_vint, dec_vint] at hc
          simp at hc ⊢
          intro h1 h2
          exact hc (by omega) (by omega)
      · have hk : p.kind ≠ 1 := by have := vint_ne hb; omega
        refine next (e1.trans e2) ?_ ⟨_, _, rfl⟩
        rw [hh]
        simp [hk]
  · rintro σ' H' ⟨e, hno, x, y, rfl⟩
    refine s_ret ev_c fun H2 e2 => ?_
    have e' : Vbxlac.isOnWires s a b = false := any_range s.wires (hits a b) s rfl (fun j hj => hno j (by simpa using hj))
    rw [← e']
    exact k H2 (e.trans e2)
theorem sv_has_message {G : NG} {s : Vbxlac.State} {a b : Nat} {H : Hp} (hN : NetAt A H G s) (hW : ∀ w ∈ s.wires, WireOk s w) : SpV (sp_has_message K A) [.ref (G.ad .net), .int (a : Int), .int (b : Int)] H (.bl (Vbxlac.isOnWires s a b)) :=
  fun H1 e Q q E => ⟨G, s, a, b, rfl, hN.ex e, hW, q⟩
/-! ### what a site does with a packet -/
theorem linksOf_update (s : Vbxlac.State) {x o : Nat} (f : Vbxlac.Link → Vbxlac.Link) (hx : 1 ≤ x) (i : Nat) (k : Bool) : linksOf (Vbxlac.updatePresent s x o f) i k = if i = x - 1 ∧ k = false then Vbxlac.updateAt f (o - 1) (linksOf s i false) else linksOf s i k := by
  unfold linksOf
  rw [siteAt_updatePresent]
  by_cases h : i = x - 1
  · subst h
    cases k <;> simp
  · have : ¬ (i + 1 - 1 = x - 1) := by omega
    simp [this, h]
theorem plc_update {n : Nat} {l : List Vbxlac.Link} (hl : l.length = n) {o : Nat} (ho : 1 ≤ o) (ho2 : o ≤ n) (f : Vbxlac.Link → Vbxlac.Link) (j : Nat) : plc (Vbxlac.updateAt f (o - 1) l) j = if j = o then f (plc l j) else plc l j := by
  unfold plc
  by_cases hj : j = 0
  · have : ¬ (j = o) := by omega
    rw [if_pos hj, if_neg this, if_pos hj]
  · rw [if_neg hj, if_neg hj, linkAt_updateAt f l o j (by omega)]
    by_cases h : j = o
    · rw [if_pos h, if_pos (by omega)]
    · rw [if_neg h, if_neg (by omega)]
/-- one of a present copy's parts written: the role c0 of site x, for the other site o -/
theorem Step.part {H : Hp} {G : NG} {s : Vbxlac.State} (h : NetAt A H G s) (hS : Sites s) {x o : Nat} (hx : 1 ≤ x) (hx2 : x ≤ s.sites.length) (ho : 1 ≤ o) (ho2 : o ≤ s.sites.length) {f : Vbxlac.Link → Vbxlac.Link} {c0 : CR} (hc0 : c0.ok s.sites.length) {ps' : CR → List Addr} {ob : HO}
    (hob : ob = conC A s.sites.length ⟨(G.cg (x - 1) false).ad, (G.cg (x - 1) false).dx, ps'⟩ (linksOf (Vbxlac.updatePresent s x o f) (x - 1) false) c0)
    (hoth : ∀ c, c.ok s.sites.length → c ≠ c0 → conC A s.sites.length ⟨(G.cg (x - 1) false).ad, (G.cg (x - 1) false).dx, ps'⟩ (linksOf (Vbxlac.updatePresent s x o f) (x - 1) false) c = conC A s.sites.length (G.cg (x - 1) false) (linksOf s (x - 1) false) c)
    (hpay : ∀ c, c.ok s.sites.length → Pays H (ps' c) (msgs (linksOf (Vbxlac.updatePresent s x o f) (x - 1) false) c)) (hout : ∀ c, c.ok s.sites.length → ∀ a ∈ ps' c, Out G s a) (hwz : ∀ c, c.ok s.sites.length → ∀ a ∈ ps' c, a ∈ G.ps (x - 1) false c ∨ W a) :
    Step A W H G s (upd H (G.ad (.cp (x - 1) false c0)) ob) ⟨G.ad, G.dx, fun i k c => if i = x - 1 ∧ k = false then ps' c else G.ps i k c⟩ (Vbxlac.updatePresent s x o f) := by
  have hn : (Vbxlac.updatePresent s x o f).sites.length = s.sites.length := length_updateAt _ _ _
  have hi : x - 1 < s.sites.length := by omega
  have cgx : (⟨G.ad, G.dx, fun i k c => if i = x - 1 ∧ k = false then ps' c else G.ps i k c⟩ : NG).cg (x - 1) false = ⟨(G.cg (x - 1) false).ad, (G.cg (x - 1) false).dx, ps'⟩ := by
    unfold NG.cg
    simp
  have cgo : ∀ i k, ¬ (i = x - 1 ∧ k = false) → (⟨G.ad, G.dx, fun i k c => if i = x - 1 ∧ k = false then ps' c else G.ps i k c⟩ : NG).cg i k = G.cg i k := fun i k z => by
    unfold NG.cg
    simp [z]
  refine h.write (r0 := .cp (x - 1) false c0) ⟨hi, hc0⟩ hn rfl rfl ?_ (fun r hr hne => ?_) (fun i k c hi' hc' => ?_) (fun i k c hi' hc' a ha => ?_) (fun a hz => ?_)
  · show conC A (Vbxlac.updatePresent s x o f).sites.length (NG.cg _ (x - 1) false) _ c0 = ob
    rw [cgx, hn]
    exact hob.symm
  · cases r with
    | cp i k c =>
      show conC A (Vbxlac.updatePresent s x o f).sites.length (NG.cg _ i k) (linksOf (Vbxlac.updatePresent s x o f) i k) c = conC A s.sites.length (G.cg i k) (linksOf s i k) c
      by_cases z : i = x - 1 ∧ k = false
      · obtain ⟨rfl, rfl⟩ := z
        rw [cgx, hn]
        exact hoth c hr.2 fun y => hne (by rw [y])
      · rw [cgo i k z, hn, linksOf_update s f hx, if_neg z]
    | sitesL =>
      show HO.lst ((List.range (Vbxlac.updatePresent s x o f).sites.length).map _) = HO.lst ((List.range s.sites.length).map _)
      rw [hn]
    | _ => rfl
  · show Pays H (if i = x - 1 ∧ k = false then ps' c else G.ps i k c) (msgs (linksOf (Vbxlac.updatePresent s x o f) i k) c)
    by_cases z : i = x - 1 ∧ k = false
    · obtain ⟨rfl, rfl⟩ := z
      rw [if_pos ⟨rfl, rfl⟩]
      exact hpay c hc'
    · rw [if_neg z, linksOf_update s f hx, if_neg z]
      exact h.pay i k c hi' hc'
  · have ha' : a ∈ (if i = x - 1 ∧ k = false then ps' c else G.ps i k c) := ha
    by_cases z : i = x - 1 ∧ k = false
    · rw [if_pos z] at ha'
      exact hout c hc' a ha'
    · rw [if_neg z] at ha'
      exact fun r hr e => h.out r i k c hr hi' hc' (e ▸ ha')
  · obtain ⟨i, k, c, hi', hc', ha⟩ := hz
    rw [hn] at hi' hc'
    have ha' : a ∈ (if i = x - 1 ∧ k = false then ps' c else G.ps i k c) := ha
    by_cases z : i = x - 1 ∧ k = false
    · rw [if_pos z] at ha'
      rcases hwz c hc' a ha' with y | y
      · exact .inl ⟨x - 1, false, c, hi, hc', y⟩
      · exact .inr y
    · rw [if_neg z] at ha'
      exact .inl ⟨i, k, c, hi', hc', ha'⟩
/-- a message list of a present copy grows by one -/
theorem NetAt.payOut {H : Hp} {G : NG} {s : Vbxlac.State} (h : NetAt A H G s) {i : Nat} {k : Bool} {c : CR} (hi : i < s.sites.length) (hc : c.ok s.sites.length) : ∀ a ∈ G.ps i k c, Out G s a := fun a ha r hr e => h.out r i k c hr hi hc (e ▸ ha)
def addRec (m : Vbxlac.Bytes) : Vbxlac.Link → Vbxlac.Link := fun l => { l with received := l.received ++ [m] }
def addSent (m : Vbxlac.Bytes) : Vbxlac.Link → Vbxlac.Link := fun l => { l with sent := l.sent ++ [m] }
def setAck (n : Nat) : Vbxlac.Link → Vbxlac.Link := fun l => { l with acknowledged := n }
theorem Step.received {H : Hp} {G : NG} {s : Vbxlac.State} (h : NetAt A H G s) (hS : Sites s) {x o : Nat} (hx : 1 ≤ x) (hx2 : x ≤ s.sites.length) (ho : 1 ≤ o) (ho2 : o ≤ s.sites.length) {m : Vbxlac.Bytes} {a : Addr} (ha : H a = some (.lst (byV m))) (oa : Out G s a) (wa : W a) :
    ∃ G', Step A W H G s (upd H (G.ad (.cp (x - 1) false (.recv o))) (.lst ((G.ps (x - 1) false (.recv o)).map V.ref ++ [.ref a]))) G' (Vbxlac.updatePresent s x o (addRec m)) := by
  have hi : x - 1 < s.sites.length := by omega
  have hl := hS.links (x - 1) false hi
  have pl : ∀ j, plc (linksOf (Vbxlac.updatePresent s x o (addRec m)) (x - 1) false) j = if j = o then addRec m (plc (linksOf s (x - 1) false) j) else plc (linksOf s (x - 1) false) j := fun j => by
    rw [linksOf_update s _ hx, if_pos ⟨rfl, rfl⟩, plc_update hl ho ho2]
  refine ⟨_, Step.part h hS hx hx2 ho ho2 (c0 := .recv o) ho2 (ps' := fun c => if c = .recv o then G.ps (x - 1) false (.recv o) ++ [a] else G.ps (x - 1) false c) ?_ (fun c hc hne => ?_) (fun c hc => ?_) (fun c hc b hb => ?_) (fun c hc b hb => ?_)⟩
  · show _ = HO.lst ((if CR.recv o = .recv o then G.ps (x - 1) false (.recv o) ++ [a] else G.ps (x - 1) false (.recv o)).map V.ref)
    rw [if_pos rfl, List.map_append] <;> rfl
  · cases c with
    | ackL =>
      show HO.lst _ = HO.lst _
      congr 1
      apply List.map_congr_left
      intro j _
      rw [pl]
      split <;> rfl
    | sent j =>
      show HO.lst ((if CR.sent j = .recv o then G.ps (x - 1) false (.recv o) ++ [a] else G.ps (x - 1) false (.sent j)).map V.ref) = HO.lst ((G.ps (x - 1) false (.sent j)).map V.ref)
      rw [if_neg (by simp)]
    | recv j =>
      show HO.lst ((if CR.recv j = .recv o then G.ps (x - 1) false (.recv o) ++ [a] else G.ps (x - 1) false (.recv j)).map V.ref) = HO.lst ((G.ps (x - 1) false (.recv j)).map V.ref)
      rw [if_neg hne]
    | _ => rfl
  · by_cases z : c = .recv o
    · subst z
      rw [if_pos rfl]
      show Pays H _ (plc (linksOf (Vbxlac.updatePresent s x o (addRec m)) (x - 1) false) o).received
      rw [pl, if_pos rfl]
      exact (h.pay (x - 1) false (.recv o) hi hc).snoc ha
    · rw [if_neg z]
      have q := h.pay (x - 1) false c hi hc
      cases c with
      | sent j =>
        show Pays H _ (plc (linksOf (Vbxlac.updatePresent s x o (addRec m)) (x - 1) false) j).sent
        rw [pl]
        split <;> exact q
      | recv j =>
        show Pays H _ (plc (linksOf (Vbxlac.updatePresent s x o (addRec m)) (x - 1) false) j).received
        rw [pl, if_neg (fun y => z (by rw [y]))]
        exact q
      | _ => exact q
  · have hb' : b ∈ (if c = .recv o then G.ps (x - 1) false (.recv o) ++ [a] else G.ps (x - 1) false c) := hb
    by_cases z : c = .recv o
    · subst z
      rw [if_pos rfl, List.mem_append, List.mem_singleton] at hb'
      rcases hb' with hb' | rfl
      · exact h.payOut hi hc b hb'
      · exact oa
    · rw [if_neg z] at hb'
      exact h.payOut hi hc b hb'
  · have hb' : b ∈ (if c = .recv o then G.ps (x - 1) false (.recv o) ++ [a] else G.ps (x - 1) false c) := hb
    by_cases z : c = .recv o
    · subst z
      rw [if_pos rfl, List.mem_append, List.mem_singleton] at hb'
      rcases hb' with hb' | rfl
      · exact .inl hb'
      · exact .inr wa
    · rw [if_neg z] at hb'
      exact .inl hb'
theorem Step.sentOne {H : Hp} {G : NG} {s : Vbxlac.State} (h : NetAt A H G s) (hS : Sites s) {x o : Nat} (hx : 1 ≤ x) (hx2 : x ≤ s.sites.length) (ho : 1 ≤ o) (ho2 : o ≤ s.sites.length) {m : Vbxlac.Bytes} {a : Addr} (ha : H a = some (.lst (byV m))) (oa : Out G s a) (wa : W a) :
    ∃ G', Step A W H G s (upd H (G.ad (.cp (x - 1) false (.sent o))) (.lst ((G.ps (x - 1) false (.sent o)).map V.ref ++ [.ref a]))) G' (Vbxlac.updatePresent s x o (addSent m)) ∧ G'.ad = G.ad ∧ (G'.ps (x - 1) false (.sent o)) = G.ps (x - 1) false (.sent o) ++ [a] := by
  have hi : x - 1 < s.sites.length := by omega
  have hl := hS.links (x - 1) false hi
  have pl : ∀ j, plc (linksOf (Vbxlac.updatePresent s x o (addSent m)) (x - 1) false) j = if j = o then addSent m (plc (linksOf s (x - 1) false) j) else plc (linksOf s (x - 1) false) j := fun j => by
    rw [linksOf_update s _ hx, if_pos ⟨rfl, rfl⟩, plc_update hl ho ho2]
  refine ⟨_, Step.part h hS hx hx2 ho ho2 (c0 := .sent o) ho2 (ps' := fun c => if c = .sent o then G.ps (x - 1) false (.sent o) ++ [a] else G.ps (x - 1) false c) ?_ (fun c hc hne => ?_) (fun c hc => ?_) (fun c hc b hb => ?_) (fun c hc b hb => ?_), rfl, ?_⟩
  · show _ = HO.lst ((if CR.sent o = .sent o then G.ps (x - 1) false (.sent o) ++ [a] else G.ps (x - 1) false (.sent o)).map V.ref)
    rw [if_pos rfl, List.map_append] <;> rfl
  · cases c with
    | ackL =>
      show HO.lst _ = HO.lst _
      congr 1
      apply List.map_congr_left
      intro j _
      rw [pl]
      split <;> rfl
    | recv j =>
      show HO.lst ((if CR.recv j = .sent o then G.ps (x - 1) false (.sent o) ++ [a] else G.ps (x - 1) false (.recv j)).map V.ref) = HO.lst ((G.ps (x - 1) false (.recv j)).map V.ref)
      rw [if_neg (by simp)]
    | sent j =>
      show HO.lst ((if CR.sent j = .sent o then G.ps (x - 1) false (.sent o) ++ [a] else G.ps (x - 1) false (.sent j)).map V.ref) = HO.lst ((G.ps (x - 1) false (.sent j)).map V.ref)
      rw [if_neg hne]
    | _ => rfl
  · by_cases z : c = .sent o
    · subst z
      rw [if_pos rfl]
      show Pays H _ (plc (linksOf (Vbxlac.updatePresent s x o (addSent m)) (x - 1) false) o).sent
      rw [pl, if_pos rfl]
      exact (h.pay (x - 1) false (.sent o) hi hc).snoc ha
    · rw [if_neg z]
      have q := h.pay (x - 1) false c hi hc
      cases c with
      | recv j =>
        show Pays H _ (plc (linksOf (Vbxlac.updatePresent s x o (addSent m)) (x - 1) false) j).received
        rw [pl]
        split <;> exact q
      | sent j =>
        show Pays H _ (plc (linksOf (Vbxlac.updatePresent s x o (addSent m)) (x - 1) false) j).sent
        rw [pl, if_neg (fun y => z (by rw [y]))]
        exact q
      | _ => exact q
  · have hb' : b ∈ (if c = .sent o then G.ps (x - 1) false (.sent o) ++ [a] else G.ps (x - 1) false c) := hb
    by_cases z : c = .sent o
    · subst z
      rw [if_pos rfl, List.mem_append, List.mem_singleton] at hb'
      rcases hb' with hb' | rfl
      · exact h.payOut hi hc b hb'
      · exact oa
    · rw [if_neg z] at hb'
      exact h.payOut hi hc b hb'
  · have hb' : b ∈ (if c = .sent o then G.ps (x - 1) false (.sent o) ++ [a] else G.ps (x - 1) false c) := hb
    by_cases z : c = .sent o
    · subst z
      rw [if_pos rfl, List.mem_append, List.mem_singleton] at hb'
      rcases hb' with hb' | rfl
      · exact .inl hb'
      · exact .inr wa
    · rw [if_neg z] at hb'
      exact .inl hb'
  · simp
theorem Step.acked {H : Hp} {G : NG} {s : Vbxlac.State} (h : NetAt A H G s) (hS : Sites s) {x o : Nat} (hx : 1 ≤ x) (hx2 : x ≤ s.sites.length) (ho : 1 ≤ o) (ho2 : o ≤ s.sites.length) {n : Nat} :
    ∃ G', Step A W H G s (upd H (G.ad (.cp (x - 1) false .ackL)) (.lst (((List.range (s.sites.length + 1)).map fun j => V.int ((plc (linksOf s (x - 1) false) j).acknowledged : Int)).set o (.int (n : Int))))) G' (Vbxlac.updatePresent s x o (setAck n)) := by
  have hi : x - 1 < s.sites.length := by omega
  have hl := hS.links (x - 1) false hi
  have pl : ∀ j, plc (linksOf (Vbxlac.updatePresent s x o (setAck n)) (x - 1) false) j = if j = o then setAck n (plc (linksOf s (x - 1) false) j) else plc (linksOf s (x - 1) false) j := fun j => by
    rw [linksOf_update s _ hx, if_pos ⟨rfl, rfl⟩, plc_update hl ho ho2]
  refine ⟨_, Step.part h hS hx hx2 ho ho2 (c0 := .ackL) trivial (ps' := G.ps (x - 1) false) ?_ (fun c hc hne => ?_) (fun c hc => ?_) (fun c hc b hb => h.payOut hi hc b hb) (fun c hc b hb => .inl hb)⟩
  · show HO.lst _ = HO.lst _
    congr 1
    apply List.ext_getElem?
    intro j
    rw [List.getElem?_set]
    by_cases hj : j < s.sites.length + 1
    · rw [range_at hj, range_at hj, pl]
      by_cases z : j = o
      · subst z
        rw [if_pos rfl, if_pos rfl]
        simp [hj, setAck]
      · rw [if_neg (fun y => z y.symm), if_neg z]
    · rw [if_neg (by omega), List.getElem?_eq_none (by simp; omega), List.getElem?_eq_none (by simp; omega)]
  · cases c with
    | ackL => exact absurd rfl hne
    | _ => rfl
  · have q := h.pay (x - 1) false c hi hc
    cases c with
    | sent j =>
      show Pays H _ (plc (linksOf (Vbxlac.updatePresent s x o (setAck n)) (x - 1) false) j).sent
      rw [pl]
      split <;> exact q
    | recv j =>
      show Pays H _ (plc (linksOf (Vbxlac.updatePresent s x o (setAck n)) (x - 1) false) j).received
      rw [pl]
      split <;> exact q
    | _ => exact q
end Sur
namespace Sur
open PySem PySem.Spec PyProof.Rows L2 Evl
variable {P : Program} {w : World} {K : PySem.W.Frag} {mg : Str → Option Value} {base : Heap} {A : Ads} {W : Addr → Prop}
/-! ## A packet taken by a site; delivered -/
def takeM (s : Vbxlac.State) (p : Vbxlac.Packet) : Vbxlac.State × Nat :=
  if p.number = (lp s p.receiver p.sender).received.length + 1 then (Vbxlac.updatePresent s p.receiver p.sender (addRec p.payload), 1) else (s, if p.number ≤ (lp s p.receiver p.sender).received.length then 2 else 3)
def takeA (s : Vbxlac.State) (p : Vbxlac.Packet) : Vbxlac.State × Nat :=
  if (lp s p.receiver p.sender).acknowledged < p.number then (Vbxlac.updatePresent s p.receiver p.sender (setAck p.number), 4) else (s, 5)
theorem plc_present (s : Vbxlac.State) {x o : Nat} (hx : 1 ≤ x) (ho : 1 ≤ o) : plc (linksOf s (x - 1) false) o = lp s x o := by
  rw [plc_pos ho]
  show Vbxlac.linkAt (Vbxlac.siteAt s (x - 1 + 1)).present o = _
  rw [show x - 1 + 1 = x by omega] <;> rfl
theorem plc_durable (s : Vbxlac.State) {x o : Nat} (hx : 1 ≤ x) (ho : 1 ≤ o) : plc (linksOf s (x - 1) true) o = ld s x o := by
  rw [plc_pos ho]
  show Vbxlac.linkAt (Vbxlac.siteAt s (x - 1 + 1)).durable o = _
  rw [show x - 1 + 1 = x by omega] <;> rfl
def sp_take_message (K : PySem.W.Frag) (A : Ads) : Sp := fun vs H Q _ => ∃ (W : Addr → Prop) (G : NG) (s : Vbxlac.State) (q pl : Addr) (p : Vbxlac.Packet), vs = [.ref (G.ad (.cp (p.receiver - 1) false .self)), .ref q] ∧ NetAt A H G s ∧ Sites s ∧ 1 ≤ p.receiver ∧ p.receiver ≤ s.sites.length ∧ 1 ≤ p.sender ∧ p.sender ≤ s.sites.length ∧
  PktAt A H q p pl ∧ Out G s pl ∧ W pl ∧ ∀ G' H', Step A W H G s H' G' (takeM s p).1 → Q (.int ((takeM s p).2 : Int)) H'
theorem len_take_message : ∀ vs H Q E, sp_take_message K A vs H Q E → vs.length = (["present", "packet"] : List Str).length := by
  rintro vs H Q E ⟨W, G, s, q, pl, p, rfl, _⟩
  rfl
def t_take_message (K : PySem.W.Frag) (A : Ads) : TS :=
 tSeq (tAsg (tOp (rIxL K) (tFld K (tVar 0) "received") (tFld K (tVar 1) "sender")) (gName 2))
 (tSeq (tIfS (tTest (tOp (rLe) (tFld K (tVar 1) "number") (tCB (rLenS K) (tCons (tVar 2) (tNil)))))
 (tRet (tC (.int (2))))
 (tNext))
 (tSeq (tIfS (tTest (tOp (rGt) (tFld K (tVar 1) "number") (tOp rPlus (tCB (rLenS K) (tCons (tVar 2) (tNil))) (tC (.int 1)))))
 (tRet (tC (.int (3))))
 (tNext))
 (tSeq (tDrop (tBM K "list" rAppend (tVar 2) (tCons (tFld K (tVar 1) "payload") (tNil))))
 (tRet (tC (.int (1)))))))
theorem pure_take_message (T : Txt K mg A) (vs : List V) (H : Hp) (Q : VK) (E : XK) (h : sp_take_message K A vs H Q E) : t_take_message K A { nx := fun _ H' => Q .non H', rt := Q } (start ["present", "packet", "received"] vs) H := by
  obtain ⟨W, G, s, q, pl, p, rfl, hN, hS, r1, r2, s1, s2, hp, op, wp, k⟩ := h
  have hi : p.receiver - 1 < s.sites.length := by omega
  have cp := hN.copy hS.links (k := false) hi
  have el := plc_present s (x := p.receiver) (o := p.sender) r1 s1
  refine q_asg (v := .ref ((G.cg (p.receiver - 1) false).ad (.recv p.sender))) (ev_recAt T cp s2 (ev_var rfl) (pk_sender T hp (ev_var rfl))) fun H1 e1 => ?_
  have ln : ∀ {H' : Hp}, Ex H H' → Ev (tCB (rLenS K) (tCons (tVar 2) tNil)) [some (.ref (G.ad (.cp (p.receiver - 1) false .self))), some (.ref q), some (.ref ((G.cg (p.receiver - 1) false).ad (.recv p.sender)))] H' (.int ((lp s p.receiver p.sender).received.length : Int)) := fun {H'} e =>
    ev_is (ev_len (ev_var rfl) (sq_recv (cp.ex e) s2)) (by rw [List.length_map, len_recv (cp.ex e) s2, el])
  refine q_when (et_test (ev_op (pk_number T (hp.ex e1) (ev_var rfl)) (ln e1) rv_I0)) (fun hb H2 e2 => ?_) (fun hb H2 e2 => ?_)
  · have hle : p.number ≤ (lp s p.receiver p.sender).received.length := by
      have := of_decide_eq_true hb
      omega
    have ht : takeM s p = (s, 2) := by unfold takeM; rw [if_neg (by omega), if_pos hle]
    rw [ht] at k
    exact s_ret ev_c fun H3 e3 => k G H3 (Step.ofEx hN ((e1.trans e2).trans e3))
  · have hgt : ¬ p.number ≤ (lp s p.receiver p.sender).received.length := by
      have := of_decide_eq_false hb
      omega
    have e12 := e1.trans e2
    refine q_when (et_test (ev_op (pk_number T (hp.ex e12) (ev_var rfl)) (ev_op (ln e12) ev_c rv_I0) rv_I0)) (fun hc H3 e3 => ?_) (fun hc H3 e3 => ?_)
    · have hlt : (lp s p.receiver p.sender).received.length + 1 < p.number := by
        have := of_decide_eq_true hc
        omega
      have ht : takeM s p = (s, 3) := by unfold takeM; rw [if_neg (by omega), if_neg hgt]
      rw [ht] at k
      exact s_ret ev_c fun H4 e4 => k G H4 (Step.ofEx hN ((e12.trans e3).trans e4))
    · have heq : p.number = (lp s p.receiver p.sender).received.length + 1 := by
        have := of_decide_eq_false hc
        omega
      have e13 := e12.trans e3
      have ht : takeM s p = (Vbxlac.updatePresent s p.receiver p.sender (addRec p.payload), 1) := by unfold takeM; rw [if_pos heq]
      rw [ht] at k
      have lz : ((G.ps (p.receiver - 1) false (.recv p.sender)).map V.ref).length < 100000 := by
        have h1 : (G.ps (p.receiver - 1) false (.recv p.sender)).length = (plc (linksOf s (p.receiver - 1) false) p.sender).received.length := len_recv cp s2
        have := hS.rec60 p.receiver p.sender
        rw [List.length_map, h1, el]
        omega
      refine q_app ((hN.ex e13).here (.cp (p.receiver - 1) false (.recv p.sender)) ⟨hi, s2⟩) (ev_var rfl) (pk_payload T (hp.ex e13) (ev_var rfl)) lz fun H4 e4 => ?_
      obtain ⟨G', st⟩ := Step.received (hN.ex (e13.trans e4)) hS r1 r2 s1 s2 ((hp.ex (e13.trans e4)).2) op wp
      exact s_ret ev_c fun H5 e5 => k G' H5 ((st.left (e13.trans e4)).right e5)
def sp_take_acknowledgement (K : PySem.W.Frag) (A : Ads) : Sp := fun vs H Q _ => ∃ (W : Addr → Prop) (G : NG) (s : Vbxlac.State) (q pl : Addr) (p : Vbxlac.Packet), vs = [.ref (G.ad (.cp (p.receiver - 1) false .self)), .ref q] ∧ NetAt A H G s ∧ Sites s ∧ 1 ≤ p.receiver ∧ p.receiver ≤ s.sites.length ∧ 1 ≤ p.sender ∧ p.sender ≤ s.sites.length ∧
  PktAt A H q p pl ∧ ∀ G' H', Step A W H G s H' G' (takeA s p).1 → Q (.int ((takeA s p).2 : Int)) H'
theorem len_take_acknowledgement : ∀ vs H Q E, sp_take_acknowledgement K A vs H Q E → vs.length = (["present", "packet"] : List Str).length := by
  rintro vs H Q E ⟨W, G, s, q, pl, p, rfl, _⟩
  rfl
def t_take_acknowledgement (K : PySem.W.Frag) (A : Ads) : TS :=
 tSeq (tIfS (tTest (tOp (rLe) (tFld K (tVar 1) "number") (tOp (rIxL K) (tFld K (tVar 0) "acknowledged") (tFld K (tVar 1) "sender"))))
 (tRet (tC (.int (5))))
 (tNext))
 (tSeq (tAsg (tFld K (tVar 1) "number") (gSub (tFld K (tVar 0) "acknowledged") (tFld K (tVar 1) "sender") rSetL))
 (tRet (tC (.int (4)))))
theorem pure_take_acknowledgement (T : Txt K mg A) (vs : List V) (H : Hp) (Q : VK) (E : XK) (h : sp_take_acknowledgement K A vs H Q E) : t_take_acknowledgement K A { nx := fun _ H' => Q .non H', rt := Q } (start ["present", "packet"] vs) H := by
  obtain ⟨W, G, s, q, pl, p, rfl, hN, hS, r1, r2, s1, s2, hp, k⟩ := h
  have hi : p.receiver - 1 < s.sites.length := by omega
  have cp := hN.copy hS.links (k := false) hi
  have el := plc_present s (x := p.receiver) (o := p.sender) r1 s1
  have sel : ∀ {H' : Hp} {te : TE} {σ : L2.St}, Ev te σ H' (.ref (G.ad (.cp (p.receiver - 1) false .self))) → Ev te σ H' (.ref ((G.cg (p.receiver - 1) false).ad .self)) := fun h => h
  refine q_when (et_test (ev_op (pk_number T hp (ev_var rfl)) (ev_is (ev_ackAt T cp s2 (sel (ev_var rfl)) (pk_sender T hp (ev_var rfl))) (by rw [el])) rv_I0)) (fun hb H1 e1 => ?_) (fun hb H1 e1 => ?_)
  · have hle : p.number ≤ (lp s p.receiver p.sender).acknowledged := by
      have := of_decide_eq_true hb
      omega
    have ht : takeA s p = (s, 5) := by unfold takeA; rw [if_neg (by omega)]
    rw [ht] at k
    exact s_ret ev_c fun H3 e3 => k G H3 (Step.ofEx hN (e1.trans e3))
  · have hgt : (lp s p.receiver p.sender).acknowledged < p.number := by
      have := of_decide_eq_false hb
      omega
    have ht : takeA s p = (Vbxlac.updatePresent s p.receiver p.sender (setAck p.number), 4) := by unfold takeA; rw [if_pos hgt]
    rw [ht] at k
    have cp1 := cp.ex e1
    refine q_setL (j := p.sender) ((hN.ex e1).here (.cp (p.receiver - 1) false .ackL) ⟨hi, trivial⟩) (pk_number T (hp.ex e1) (ev_var rfl)) (ev_acknowledged T cp1 (sel (ev_var rfl))) (pk_sender T (hp.ex e1) (ev_var rfl)) (by simp; omega) fun H2 e2 => ?_
    obtain ⟨G', st⟩ := Step.acked (n := p.number) (hN.ex (e1.trans e2)) hS r1 r2 s1 s2
    exact s_ret ev_c fun H5 e5 => k G' H5 ((st.left (e1.trans e2)).right e5)
/-! ### delivering -/
/-- the answer of a delivery behind its 0 -/
def delAns (x : Vbxlac.State × Nat × Option Vbxlac.Packet) : List Int := Vbxlac.toInt x.2.1 :: (match x.2.2 with
  | none => []
  | some p => Vbxlac.packetResult p)
theorem receive_none {s : Vbxlac.State} {b : Vbxlac.Bytes} (h : Vbxlac.readPacket b = none) : Vbxlac.receive s b = (s, 0, none) := by
  unfold Vbxlac.receive
  rw [h] <;> rfl
theorem receive_msg {s : Vbxlac.State} {b : Vbxlac.Bytes} {p : Vbxlac.Packet} (h : Vbxlac.readPacket b = some p) (hk : p.kind = 1) : Vbxlac.receive s b = ((takeM s p).1, (takeM s p).2, some p) := by
  unfold Vbxlac.receive takeM
  rw [h]
  simp only
  rw [if_pos hk]
  show (if p.number = (lp s p.receiver p.sender).received.length + 1 then _ else _) = _
  split <;> rfl
theorem receive_ack {s : Vbxlac.State} {b : Vbxlac.Bytes} {p : Vbxlac.Packet} (h : Vbxlac.readPacket b = some p) (hk : p.kind ≠ 1) : Vbxlac.receive s b = ((takeA s p).1, (takeA s p).2, some p) := by
  unfold Vbxlac.receive takeA
  rw [h]
  simp only
  rw [if_neg hk]
  show (if (lp s p.receiver p.sender).acknowledged < p.number then _ else _) = _
  split <;> rfl
def sp_deliver_packet (K : PySem.W.Frag) (A : Ads) : Sp := fun vs H Q _ => ∃ (W : Addr → Prop) (G : NG) (s : Vbxlac.State) (i : Nat), vs = [.ref (G.ad .net), .int (i : Int)] ∧ NetAt A H G s ∧ Sites s ∧ i < s.wires.length ∧ s.wires.length ≤ 1000000 ∧ BytesOk s (wireOf s i).bytes ∧ (∀ a, H a = none → W a) ∧
  RetStep A W H G s (Vbxlac.receive (popW s i) (wireOf s i).bytes).1 (delAns (Vbxlac.receive (popW s i) (wireOf s i).bytes)) Q
theorem len_deliver_packet : ∀ vs H Q E, sp_deliver_packet K A vs H Q E → vs.length = (["network", "index"] : List Str).length := by
  rintro vs H Q E ⟨W, G, s, i, rfl, _⟩
  rfl
def t_deliver_packet (K : PySem.W.Frag) (A : Ads) : TS :=
 tSeq (tAsg (tCall (sp_packet_of K A) [] E0 (tCons (tFld K (tBM K "list" rPopAt (tFld K (tVar 0) "wires") (tCons (tVar 1) (tNil))) "octets") (tNil))) (gName 2))
 (tSeq (tIfS (tTest (tOp (rIsN) (tVar 2) (tC .non)))
 (tRet (tLst (tCons (tC (.int (0))) (tNil))))
 (tNext))
 (tSeq (tAsg (tFld K (tMeth A.c_Network "site" (sp_Network_site K A) [] E0 (tVar 0) (tCons (tFld K (tVar 2) "receiver") (tNil))) "present") (gName 3))
 (tSeq (tIfS (tTest (tOp (rEq) (tFld K (tVar 2) "kind") (tC (.int (1)))))
 (tAsg (tCall (sp_take_message K A) [] E0 (tCons (tVar 3) (tCons (tVar 2) (tNil)))) (gName 4))
 (tAsg (tCall (sp_take_acknowledgement K A) [] E0 (tCons (tVar 3) (tCons (tVar 2) (tNil)))) (gName 4)))
 (tRet (tLst (tCons (tVar 4) (tCons (tFld K (tVar 2) "sender") (tCons (tFld K (tVar 2) "receiver") (tCons (tFld K (tVar 2) "number") (tNil))))))))))
theorem asg_call2 {sp : Sp} {t0 t1 : TE} {x y : V} {σ : L2.St} {H : Hp} {D : Ends} {i : Nat} (h0 : Ev t0 σ H x) (h1 : Ev t1 σ H y) (k : ∀ H1, Ex H H1 → sp [x, y] H1 (fun v H2 => D.nx (σ.set i (some v)) H2) E0) : tAsg (tCall sp [] E0 (tCons t0 (tCons t1 tNil))) (gName i) D σ H :=
  h0 H (Ex.refl H) _ fun H1 e1 => h1 H1 e1 _ fun H2 e2 => k H2 (e1.trans e2)
/-- what comes of reading the packet that was taken off -/
theorem pop_read (T : Txt K mg A) {σ : L2.St} {H : Hp} {D : Ends} {tz : TS} {t0 t1 : TE} {j : Nat} {G : NG} {s : Vbxlac.State} {i : Nat} (hN : NetAt A H G s) (hi : i < s.wires.length) (hz : s.wires.length ≤ 1000000) (hb : BytesOk s (wireOf s i).bytes) (h0 : Ev t0 σ H (.ref (G.ad .net))) (h1 : ∀ H1, Ex H H1 → Ev t1 σ H1 (.int (i : Int)))
    (k1 : Vbxlac.readPacket (wireOf s i).bytes = none → ∀ H1, Step A W H G s H1 (G.popW i) (popW s i) → tz D (σ.set j (some .non)) H1)
    (k2 : ∀ p, Vbxlac.readPacket (wireOf s i).bytes = some p → ∀ q pl H1, Step A W H G s H1 (G.popW i) (popW s i) → Out (G.popW i) (popW s i) q → Out (G.popW i) (popW s i) pl → H q = none → H pl = none → PktAt A H1 q p pl → tz D (σ.set j (some (.ref q))) H1) :
    tSeq (tAsg (tCall (sp_packet_of K A) [] E0 (tCons (tFld K (tBM K "list" rPopAt (tFld K t0 "wires") (tCons t1 tNil)) "octets") tNil)) (gName j)) tz D σ H := by
  refine q_tAsg ?_
  refine ev_wires T hN h0 H (Ex.refl H) _ fun H1 e1 => ⟨Or.inl ⟨rfl, _, sq_wires (hN.ex e1)⟩, ?_⟩
  refine h1 H1 e1 H1 (Ex.refl H1) _ fun H2 e2 => ?_
  have e12 := e1.trans e2
  have hN2 := hN.ex e12
  have hlen : ((List.range s.wires.length).map fun j => V.ref (G.ad (.wire j))).length = s.wires.length := by simp
  refine ⟨G.ad .wiresL, _, (i : Int), i, .ref (G.ad (.wire i)), rfl, rfl, hN2.here .wiresL trivial, by omega, by omega, ?_, range_at hi, ?_⟩
  · rw [seqIndex_of (by omega) (by rw [hlen]; omega)]
    simp
  obtain ⟨st, ow, oo⟩ := Step.popW hN2 hi
  have kw : ∀ {b : Addr} {u : HO}, H2 b = some u → b ≠ G.ad .wiresL → (upd H2 (G.ad .wiresL) (.lst (((List.range s.wires.length).map fun j => V.ref (G.ad (.wire j))).eraseIdx i))) b = some u := fun hb nb => by rw [upd_ne nb]; exact hb
  have nw : G.ad (.wire i) ≠ G.ad .wiresL := fun z => by cases hN2.inj (.wire i) .wiresL hi trivial z
  have no : G.ad (.oct i) ≠ G.ad .wiresL := fun z => by cases hN2.inj (.oct i) .wiresL hi trivial z
  refine ⟨G.ad (.wire i), _, _, _, _, rfl, kw (hN2.here (.wire i) hi) nw, T.cl_WirePacket, T.n_WirePacket_octets, fl_WirePacket_octets, ?_⟩
  refine ⟨G.ad (.oct i), (wireOf s i).bytes, rfl, sq_of (kw (hN2.here (.oct i) hi) no), hb.lt, Nat.le_trans hb.len (by decide), fun e H3 e3 => k1 e H3 ((st.left e12).right e3), fun p e q pl H3 nq np e3 hp => ?_⟩
  have st3 := (st.left e12).right e3
  exact k2 p e q pl H3 st3 (st.1.fresh nq) (st.1.fresh np) ((st.left e12).fresh nq) ((st.left e12).fresh np) hp
theorem pure_deliver_packet (T : Txt K mg A) (vs : List V) (H : Hp) (Q : VK) (E : XK) (h : sp_deliver_packet K A vs H Q E) : t_deliver_packet K A { nx := fun _ H' => Q .non H', rt := Q } (start ["network", "index", "packet", "present", "outcome"] vs) H := by
  obtain ⟨W, G, s, i, rfl, hN, hS, hi, hz, hb, hW, k⟩ := h
  refine pop_read (W := W) T hN hi hz hb (ev_var rfl) (fun H1 e1 => ev_var rfl) (fun hr H1 st => ?_) (fun p hr q pl H1 st oq opl nq np hp => ?_)
  · rw [receive_none hr] at k
    refine q_when (b := true) (et_is (et_test (ev_op (ev_var (v := .non) rfl) ev_c rv_isN)) (by simp)) (fun _ H2 e2 => ?_) (fun z => by cases z)
    exact s_retL (xs := ansV [0]) (el_lst (ea_cons ev_c ea_nil) (by show 1 ≤ 100000; decide)) fun q H3 nq e3 h3 => k q _ H3 ((st.right e2).right e3) ((st.right e2).fresh nq) ((st.right e2).1.fresh nq) h3
  · obtain ⟨hpk, _⟩ := readPacket_some hr
    obtain ⟨⟨a1, a2⟩, ⟨a3, a4⟩, _, _, _⟩ := isPacket_iff.mp hpk
    obtain ⟨b1, b2⟩ := hb.site p hr
    have hS1 : Sites (popW s i) := hS.of_sites rfl
    refine q_when (b := false) (et_is (et_test (ev_op (ev_var (v := .ref q) rfl) ev_c rv_isN)) (by simp)) (fun z => by cases z) fun _ H2 e2 => ?_
    have st2 := st.right e2
    have hp2 := hp.ex e2
    have net : (G.popW i).ad .net = G.ad .net := rfl
    refine q_asg (v := .ref ((G.popW i).ad (.cp (p.receiver - 1) false .self))) (ev_present T st2.1 (i := p.receiver - 1) (by show _ < s.sites.length; omega) (ev_site T st2.1 a3 b2 (ev_var rfl) (pk_receiver T hp2 (ev_var rfl)))) fun H3 e3 => ?_
    have st3 := st2.right e3
    have hp3 := hp2.ex e3
    -- the end, from any state reached
    have fin : ∀ (t : Vbxlac.State) (o : Nat) (H4 : Hp) (G4 : NG) (x : Option V), Vbxlac.receive (popW s i) (wireOf s i).bytes = (t, o, some p) → Step A W H3 (G.popW i) (popW s i) H4 G4 t →
        tRet (tLst (tCons (tVar 4) (tCons (tFld K (tVar 2) "sender") (tCons (tFld K (tVar 2) "receiver") (tCons (tFld K (tVar 2) "number") (tNil))))))
          { nx := fun _ H' => Q .non H', rt := Q } [some (.ref (G.ad .net)), some (.int (i : Int)), some (.ref q), some (.ref ((G.popW i).ad (.cp (p.receiver - 1) false .self))), some (.int (o : Int))] H4 := by
      intro t o H4 G4 x er stt
      rw [er] at k
      have hp4 : PktAt A H4 q p pl := by
        obtain ⟨⟨dx, h1⟩, h2⟩ := hp3
        exact ⟨⟨dx, (stt.2.2.1 q _ h1 oq).1⟩, (stt.2.2.1 pl _ h2 opl).1⟩
      have sta := st3.trans stt
      exact s_retL (xs := ansV [(o : Int), (p.sender : Int), (p.receiver : Int), (p.number : Int)]) (el_lst (ea_cons (ev_var rfl) (ea_cons (pk_sender T hp4 (ev_var rfl)) (ea_cons (pk_receiver T hp4 (ev_var rfl)) (ea_cons (pk_number T hp4 (ev_var rfl)) ea_nil)))) (by show 4 ≤ 100000; decide))
        fun r H5 nr e5 h5 => k r G4 H5 (sta.right e5) (sta.fresh nr) (sta.1.fresh nr) h5
    refine q_if (et_test (ev_op (pk_kind T hp3 (ev_var rfl)) ev_c (rv_eq rfl))) (fun hc H4 e4 => ?_) (fun hc H4 e4 => ?_)
    · have hk : p.kind = 1 := by have := vint_eq hc; omega
      have hN4 := st3.1.ex e4
      refine asg_call2 (ev_var rfl) (ev_var rfl) fun H6 e6 => ?_
      have e46 := e4.trans e6
      refine ⟨W, G.popW i, popW s i, q, pl, p, rfl, st3.1.ex e46, hS1, a3, b2, a1, b1, hp3.ex e46, opl, hW pl np, fun G7 H7 st7 => ?_⟩
      exact fin _ _ H7 G7 none (receive_msg hr hk) (st7.left e46)
    · have hk : p.kind ≠ 1 := by have := vint_ne hc; omega
      refine asg_call2 (ev_var rfl) (ev_var rfl) fun H6 e6 => ?_
      have e46 := e4.trans e6
      refine ⟨W, G.popW i, popW s i, q, pl, p, rfl, st3.1.ex e46, hS1, a3, b2, a1, b1, hp3.ex e46, fun G7 H7 st7 => ?_⟩
      exact fin _ _ H7 G7 none (receive_ack hr hk) (st7.left e46)
end Sur
namespace Sur
open PySem PySem.Spec PyProof.Rows L2 Evl
variable {P : Program} {w : World} {K : PySem.W.Frag} {mg : Str → Option Value} {base : Heap} {A : Ads} {W : Addr → Prop}
/-! ## The calls 0 to 9 -/
def resR (s : Vbxlac.State) (r : Vbxlac.Result) : Vbxlac.State × List Int := match r with
  | .error e => (s, [e])
  | .ok (t, fields) => (t, 0 :: fields)
def resOf (s : Vbxlac.State) (c : Vbxlac.Call) : Vbxlac.State × List Int := resR s (Vbxlac.perform s c)
/-- the answer to a call, and the state behind it -/
def RetC (A : Ads) (W : Addr → Prop) (H : Hp) (G : NG) (s : Vbxlac.State) (c : Vbxlac.Call) (Q : VK) : Prop := RetStep A W H G s (resOf s c).1 (resOf s c).2 Q
section
variable {σ : L2.St} {H H0 : Hp} {te tr : TE} {D : Ends} {tz : TS} {G G' : NG} {s t : Vbxlac.State}
theorem RetC.of {c : Vbxlac.Call} {ans : List Int} {Q : VK} (h : RetC A W H G s c Q) (e : resOf s c = (t, ans)) : RetStep A W H G s t ans Q := by
  unfold RetC at h
  rw [e] at h
  exact h
theorem ret_step {ans : List Int} (st : Step A W H0 G s H G' t) (h : EvL te σ H (ansV ans)) (k : RetStep A W H0 G s t ans D.rt) : tRet te D σ H := s_retL h fun q H1 nq e1 h1 => k q G' H1 (st.right e1) (st.fresh nq) (st.1.fresh nq) h1
theorem el_one {e : Int} (h : Ev te σ H (.int e)) : EvL (tLst (tCons te tNil)) σ H (ansV [e]) := el_lst (ea_cons h ea_nil) (by show 1 ≤ 100000; decide)
theorem q_refuse {i : Nat} {code : Int} (hN : NetAt A H G s) (hσ : σ[i]? = some (some (.int code))) (kb : code ≠ 0 → RetStep A W H G s s [code] D.rt) (k : code = 0 → ∀ H1, Ex H H1 → tz D σ H1) :
    tSeq (tIfS (tTest (tOp rNe (tVar i) (tC (.int 0)))) (tRet (tLst (tCons (tVar i) tNil))) tNext) tz D σ H := by
  refine q_when (et_test (ev_op (ev_var hσ) ev_c (rv_ne rfl))) (fun hb H1 e1 => ?_) (fun hb H1 e1 => ?_)
  · refine ret_step (D := { D with nx := tz D }) (Step.ofEx hN e1) (el_one (ev_var hσ)) (kb fun z => ?_)
    rw [z] at hb
    simp at hb
  · refine k ?_ H1 e1
    rw [dec_vint] at hb
    simpa using hb
/-- [0] + what a call hands back -/
theorem ret_cat {ans : List Int} (hN : NetAt A H G s) (hz : ans.length ≤ 1000000) (hr : ∀ H1, Ex H H1 → ∀ Q : VK, RetStep A W H1 G s t ans Q → tr σ H1 Q) (k : RetStep A W H G s t (0 :: ans) D.rt) : tRet (tOp rCat (tLst (tCons (tC (.int 0)) tNil)) tr) D σ H := by
  refine s_tRet ?_
  refine el_one ev_c H (Ex.refl H) _ fun l H1 nl e1 h1 => ?_
  refine hr H1 e1 _ fun q G2 H2 st nq oq hq => ?_
  have hl : H2 l = some (.lst (ansV [0])) := (st.2.2.1 l _ h1 (hN.fresh nl)).1
  refine ⟨l, q, _, _, rfl, rfl, hl, hq, ?_, fun p np => ?_⟩
  · show 1 + (ansV ans).length ≤ _
    unfold ansV
    rw [List.length_map]
    exact Nat.le_trans (show _ ≤ 1000001 by omega) (by decide)
  · exact k p G2 _ ((st.left e1).right (Ex.new np)) ((st.left e1).fresh np) (st.1.fresh np) upd_same
end
theorem resOf_error {s : Vbxlac.State} {c : Vbxlac.Call} {e : Int} (h : Vbxlac.perform s c = .error e) : resOf s c = (s, [e]) := by
  unfold resOf
  rw [h] <;> rfl
theorem resOf_ok {s t : Vbxlac.State} {c : Vbxlac.Call} {fs : List Int} (h : Vbxlac.perform s c = .ok (t, fs)) : resOf s c = (t, 0 :: fs) := by
  unfold resOf
  rw [h] <;> rfl
theorem pair_facts {s : Vbxlac.State} {a b : Int} {v : Bool} (h : pairCode s a b v = 0) : v = true ∧ ∃ x y : Nat, a = (x : Int) ∧ b = (y : Int) ∧ 1 ≤ x ∧ x ≤ s.sites.length ∧ 1 ≤ y ∧ y ≤ s.sites.length ∧ x ≠ y := by
  have e := withPair_code s v a b fun _ _ => .ok (s, [])
  rw [if_pos h] at e
  obtain ⟨_, h2, h3, h4, h5, h6, h7, _⟩ := withPair_ok e
  exact ⟨h2, a.toNat, b.toNat, by omega, by omega, h3, h4, h5, h6, h7⟩
theorem site_facts {s : Vbxlac.State} {a : Int} (h : siteCode s [a] true = 0) : ∃ x : Nat, a = (x : Int) ∧ 1 ≤ x ∧ x ≤ s.sites.length := by
  have e := withSites_code s (Vbxlac.isSite a) [a] (fun _ => .ok (s, [])) true (by simp)
  rw [if_pos h] at e
  obtain ⟨_, h2, h3, _⟩ := withSites_ok e
  have h4 := isSite_iff.mp h2
  have h5 := h3 a (by simp)
  exact ⟨a.toNat, by omega, by omega, by omega⟩
theorem pkt_facts {s : Vbxlac.State} {i : Int} {v : Bool} (h : pktCode s i v = 0) : v = true ∧ ∃ j : Nat, i = (j : Int) ∧ j < s.wires.length := by
  have e := withPacket_code s v i fun _ _ => .ok (s, [])
  rw [if_pos h] at e
  obtain ⟨_, h2, w, h3, h4, _⟩ := withPacket_ok e
  exact ⟨h2, i.toNat, by omega, (List.getElem?_eq_some_iff.mp h4).1⟩
/-- what each of the calls is handed: the network, and its numbers -/
def SpC (A : Ads) (args : List V) (c : Vbxlac.Call) : Sp := fun vs H Q _ => ∃ (W : Addr → Prop) (G : NG) (s : Vbxlac.State) (k : Nat), vs = .ref (G.ad .net) :: args ∧ NetAt A H G s ∧ Good k s ∧ k ≤ 200 ∧ (∀ a, H a = none → W a) ∧ RetC A W H G s c Q
/-! ### create_sites -/
def sp_create_sites (K : PySem.W.Frag) (A : Ads) : Sp := fun vs H Q E => ∃ c : Int, SpC A [.int c] (.createSites c) vs H Q E
theorem len_create_sites : ∀ vs H Q E, sp_create_sites K A vs H Q E → vs.length = (["network", "count"] : List Str).length := by
  rintro vs H Q E ⟨c, W, G, s, k, rfl, _⟩
  rfl
def t_create_sites (K : PySem.W.Frag) (A : Ads) : TS :=
 tSeq (tIfS (tTru K (tFld K (tVar 0) "sites"))
 (tRet (tLst (tCons (tC (.int (-5))) (tNil))))
 (tNext))
 (tSeq (tIfS (tNot (tTest (tChain rLe rLe (tC (.int (2))) (tVar 1) (tC (.int (4))))))
 (tRet (tLst (tCons (tC (.int (-1))) (tNil))))
 (tNext))
 (tSeq (tDrop (tMeth A.c_Network "add_sites" (sp_Network_add_sites K A) [] E0 (tVar 0) (tCons (tVar 1) (tNil))))
 (tRet (tLst (tCons (tC (.int 0)) (tCons (tVar 1) (tNil)))))))
theorem pure_create_sites (T : Txt K mg A) (vs : List V) (H : Hp) (Q : VK) (E : XK) (h : sp_create_sites K A vs H Q E) : t_create_sites K A { nx := fun _ H' => Q .non H', rt := Q } (start ["network", "count"] vs) H := by
  obtain ⟨c, W, G, s, k, rfl, hN, hG, hk, hW, r⟩ := h
  refine q_when (b := !s.sites.isEmpty) (et_is (et_tru (ev_sites T hN (ev_var rfl)) (sq_sites hN)) (by rw [isEmpty_range])) (fun hb H1 e1 => ?_) (fun hb H1 e1 => ?_)
  · have hs : s.sites.isEmpty = false := by simpa using hb
    refine ret_step (Step.ofEx hN e1) (el_one ev_c) (r.of (resOf_error ?_))
    simp only [Vbxlac.perform]
    rw [if_pos hs]
  · have hs : s.sites.isEmpty = true := by simpa using hb
    have hs0 : ¬ s.sites.isEmpty = false := by rw [hs]; decide
    refine q_when (b := !Vbxlac.inRange c 2 4) (et_not (et_test (ev_chain ev_c (ev_var rfl) rv_I0 (fun _ => ev_c) (fun _ => rv_I0)))) (fun hc H2 e2 => ?_) (fun hc H2 e2 => ?_)
    · have hr : Vbxlac.inRange c 2 4 = false := by simpa using hc
      refine ret_step (Step.ofEx hN (e1.trans e2)) (el_one ev_c) (r.of (resOf_error ?_))
      simp only [Vbxlac.perform]
      rw [if_neg hs0]
      exact if_pos hr
    · have hr : Vbxlac.inRange c 2 4 = true := by simpa using hc
      have hr2 : 2 ≤ c ∧ c ≤ 4 := by
        unfold Vbxlac.inRange at hr
        simpa using hr
      obtain ⟨n, rfl⟩ : ∃ n : Nat, c = (n : Int) := ⟨c.toNat, by omega⟩
      have e12 := e1.trans e2
      have hN2 := hN.ex e12
      have hs' : s.sites = [] := by simpa using hs
      refine q_tDrop ⟨_, rfl, G.ad .net, _, _, rfl, hN2.here .net trivial, fl_Network_m_add_sites, ?_⟩
      refine ⟨_, rfl, W, G, s, n, rfl, hN2, hG.none hs', by omega, fun G3 H3 st => ?_⟩
      refine ret_step (ans := [0, (n : Int)]) (st.left e12) (el_lst (ea_cons ev_c (ea_cons (ev_var rfl) ea_nil)) (by show 2 ≤ 100000; decide)) (r.of (resOf_ok ?_))
      simp only [Vbxlac.perform]
      rw [if_neg hs0, if_neg (show ¬ Vbxlac.inRange (n : Int) 2 (Vbxlac.maxSites : Int) = false from fun z => by rw [show Vbxlac.inRange (n : Int) 2 (Vbxlac.maxSites : Int) = Vbxlac.inRange (n : Int) 2 4 from rfl, hr] at z; cases z)]
      rfl
/-! ### post -/
def sp_post (K : PySem.W.Frag) (A : Ads) : Sp := fun vs H Q _ => ∃ (a b : Int) (ns : List Int) (pa : Addr) (W : Addr → Prop) (G : NG) (s : Vbxlac.State) (k : Nat), vs = [.ref (G.ad .net), .int a, .int b, .ref pa] ∧ H pa = some (.lst (ansV ns)) ∧ ns.length ≤ 1000 ∧ Out G s pa ∧ W pa ∧
  NetAt A H G s ∧ Good k s ∧ k ≤ 200 ∧ RetC A W H G s (.post a b ns) Q
theorem len_post : ∀ vs H Q E, sp_post K A vs H Q E → vs.length = (["network", "sender", "receiver", "payload"] : List Str).length := by
  rintro vs H Q E ⟨a, b, ns, pa, W, G, s, k, rfl, _⟩
  rfl
def t_post (K : PySem.W.Frag) (A : Ads) : TS :=
 tSeq (tAsg (tCall (sp_pair_refusal K A) [] E0 (tCons (tVar 0) (tCons (tVar 1) (tCons (tVar 2) (tCons (tCall (sp_is_payload K A) [] E0 (tCons (tVar 3) (tNil))) (tNil)))))) (gName 4))
 (tSeq (tIfS (tTest (tOp (rNe) (tVar 4) (tC (.int 0))))
 (tRet (tLst (tCons (tVar 4) (tNil))))
 (tNext))
 (tSeq (tAsg (tFld K (tMeth A.c_Network "site" (sp_Network_site K A) [] E0 (tVar 0) (tCons (tVar 1) (tNil))) "present") (gName 5))
 (tSeq (tIfS (tTest (tOp (rGe) (tMeth A.c_SiteCopy "sent_count" (sp_SiteCopy_sent_count K A) [] E0 (tVar 5) tNil) (tC (.int (60)))))
 (tRet (tLst (tCons (tC (.int (-7))) (tNil))))
 (tNext))
 (tSeq (tDrop (tBM K "list" rAppend (tOp (rIxL K) (tFld K (tVar 5) "sent") (tVar 2)) (tCons (tVar 3) (tNil))))
 (tRet (tLst (tCons (tC (.int 0)) (tCons (tCB (rLenS K) (tCons (tOp (rIxL K) (tFld K (tVar 5) "sent") (tVar 2)) (tNil))) (tNil)))))))))
theorem bytes_back {m : Nat} {ns : List Int} (h : Vbxlac.areBytes ns m = true) : byV (Vbxlac.toBytes ns) = ansV ns := by
  obtain ⟨_, hb⟩ := areBytes_iff.mp h
  unfold byV Vbxlac.toBytes ansV
  rw [List.map_map]
  apply List.map_congr_left
  intro x hx
  show V.int ((x.toNat : Int)) = V.int x
  have := hb x hx
  congr 1
  omega
theorem pure_post (T : Txt K mg A) (vs : List V) (H : Hp) (Q : VK) (E : XK) (h : sp_post K A vs H Q E) : t_post K A { nx := fun _ H' => Q .non H', rt := Q } (start ["network", "sender", "receiver", "payload", "refusal", "present"] vs) H := by
  obtain ⟨a, b, ns, pa, W, G, s, k, rfl, hpa, hz, oa, wpa, hN, hG, hk, r⟩ := h
  have hS := hG.sites
  refine q_asg (ev_call (ea_cons (ev_var rfl) (ea_cons (ev_var rfl) (ea_cons (ev_var rfl) (ea_cons (ev_call (ea_cons (ev_var rfl) ea_nil) (sv_is_payload (sq_of hpa) hz)) ea_nil)))) (sv_pair_refusal hN)) fun H1 e1 => ?_
  have hN1 := hN.ex e1
  refine q_refuse hN1 rfl (fun hc => RetStep.left (r.of (resOf_error ?_)) e1) fun hc H2 e2 => ?_
  · simp only [Vbxlac.perform, withPair_code]
    exact if_neg hc
  obtain ⟨hv, x, y, rfl, rfl, x1, x2, y1, y2, xy⟩ := pair_facts hc
  have e12 := e1.trans e2
  have hi : x - 1 < s.sites.length := by omega
  refine q_asg (v := .ref (G.ad (.cp (x - 1) false .self))) (ev_present T (hN.ex e12) hi (ev_site T (hN.ex e12) x1 x2 (ev_var rfl) (ev_var rfl))) fun H3 e3 => ?_
  have e13 := e12.trans e3
  have cp := (hN.ex e13).copy hS.links (k := false) hi
  have sel : ∀ {H' : Hp} {te : TE} {σ : L2.St}, Ev te σ H' (.ref (G.ad (.cp (x - 1) false .self))) → Ev te σ H' (.ref ((G.cg (x - 1) false).ad .self)) := fun h => h
  have lk : linksOf s (x - 1) false = (Vbxlac.siteAt s x).present := by
    show (Vbxlac.siteAt s (x - 1 + 1)).present = _
    rw [show x - 1 + 1 = x by omega]
  have pf : Vbxlac.perform s (.post (x : Int) (y : Int) ns) = if Vbxlac.maxPosts ≤ Vbxlac.sentCount (Vbxlac.siteAt s x).present then .error (-7)
      else .ok (Vbxlac.updatePresent s x y (addSent (Vbxlac.toBytes ns)), [Vbxlac.toInt (lp s x y).sent.length + 1]) := by
    simp only [Vbxlac.perform, withPair_code]
    exact if_pos hc
  refine q_when (et_test (ev_op (ev_meth0 (sel (ev_var rfl)) (cp.here .self trivial) fl_SiteCopy_m_sent_count (sv_sent_count cp hS.few)) ev_c rv_I0)) (fun hd H4 e4 => ?_) (fun hd H4 e4 => ?_)
  · refine ret_step (Step.ofEx hN (e13.trans e4)) (el_one ev_c) (r.of (resOf_error ?_))
    rw [pf]
    refine if_pos ?_
    have := of_decide_eq_true hd
    rw [lk] at this
    show 60 ≤ _
    omega
  · have hlt : ¬ Vbxlac.maxPosts ≤ Vbxlac.sentCount (Vbxlac.siteAt s x).present := by
      have := of_decide_eq_false hd
      rw [lk] at this
      show ¬ 60 ≤ _
      omega
    have e14 := e13.trans e4
    have cp4 := cp.ex e4
    have el := plc_present s (x := x) (o := y) x1 y1
    have l60 := hS.sent60 x y
    have ln : (G.ps (x - 1) false (.sent y)).length = (lp s x y).sent.length := by
      have h1 : (G.ps (x - 1) false (.sent y)).length = (plc (linksOf s (x - 1) false) y).sent.length := len_sent cp4 y2
      rw [h1, el]
    refine q_app ((hN.ex e14).here (.cp (x - 1) false (.sent y)) ⟨hi, y2⟩) (ev_sentAt T cp4 y2 (sel (ev_var rfl)) (ev_var rfl)) (ev_var rfl) (by rw [List.length_map]; show (G.ps (x - 1) false (.sent y)).length < _; rw [ln]; omega) fun H5 e5 => ?_
    have e15 := e14.trans e5
    have hm : H5 pa = some (.lst (byV (Vbxlac.toBytes ns))) := by rw [bytes_back hv]; exact e15 _ _ hpa
    obtain ⟨G', st, ga, gp⟩ := Step.sentOne (hN.ex e15) hS x1 x2 y1 y2 hm oa wpa
    have hS' : Sites (Vbxlac.updatePresent s x y (addSent (Vbxlac.toBytes ns))) := by
      have g := hG.perform (.post (x : Int) (y : Int) ns) (t := Vbxlac.updatePresent s x y (addSent (Vbxlac.toBytes ns))) (by rw [pf, if_neg hlt])
      exact g.sites
    have hn : (Vbxlac.updatePresent s x y (addSent (Vbxlac.toBytes ns))).sites.length = s.sites.length := length_updateAt _ _ _
    have cp6 := st.1.copy hS'.links (k := false) (by rw [hn]; exact hi)
    refine ret_step (ans := [0, Vbxlac.toInt (lp s x y).sent.length + 1]) (st.left e15) (el_lst (ea_cons ev_c (ea_cons (ev_is (ev_len (ev_sentAt T cp6 (by rw [hn]; exact y2) (by show Ev (tVar 5) _ _ (.ref (G'.ad (.cp (x - 1) false .self))); rw [ga]; exact ev_var rfl) (ev_var rfl)) (sq_sent cp6 (by rw [hn]; exact y2))) ?_) ea_nil)) (by show 2 ≤ 100000; decide)) (r.of (resOf_ok ?_))
    · show V.int _ = V.int _
      congr 1
      rw [List.length_map]
      show ((G'.ps (x - 1) false (.sent y)).length : Int) = _
      rw [gp, List.length_append, ln]
      rfl
    · rw [pf, if_neg hlt]
/-! ### sync, crash, at_risk -/
def sp_sync (K : PySem.W.Frag) (A : Ads) : Sp := fun vs H Q E => ∃ a : Int, SpC A [.int a] (.sync a) vs H Q E
theorem len_sync : ∀ vs H Q E, sp_sync K A vs H Q E → vs.length = (["network", "number"] : List Str).length := by
  rintro vs H Q E ⟨c, W, G, s, k, rfl, _⟩
  rfl
def t_sync (K : PySem.W.Frag) (A : Ads) : TS :=
 tSeq (tAsg (tCall (sp_sites_refusal K A) [] E0 (tCons (tVar 0) (tCons (tLst (tCons (tVar 1) (tNil))) (tCons (tC (.bl true)) (tNil))))) (gName 2))
 (tSeq (tIfS (tTest (tOp (rNe) (tVar 2) (tC (.int 0))))
 (tRet (tLst (tCons (tVar 2) (tNil))))
 (tNext))
 (tRet (tOp rCat (tLst (tCons (tC (.int 0)) (tNil))) (tMeth A.c_Site "sync" (sp_Site_sync K A) [] E0 (tMeth A.c_Network "site" (sp_Network_site K A) [] E0 (tVar 0) (tCons (tVar 1) (tNil))) tNil))))
def sp_crash (K : PySem.W.Frag) (A : Ads) : Sp := fun vs H Q E => ∃ a : Int, SpC A [.int a] (.crash a) vs H Q E
theorem len_crash : ∀ vs H Q E, sp_crash K A vs H Q E → vs.length = (["network", "number"] : List Str).length := by
  rintro vs H Q E ⟨c, W, G, s, k, rfl, _⟩
  rfl
def t_crash (K : PySem.W.Frag) (A : Ads) : TS :=
 tSeq (tAsg (tCall (sp_sites_refusal K A) [] E0 (tCons (tVar 0) (tCons (tLst (tCons (tVar 1) (tNil))) (tCons (tC (.bl true)) (tNil))))) (gName 2))
 (tSeq (tIfS (tTest (tOp (rNe) (tVar 2) (tC (.int 0))))
 (tRet (tLst (tCons (tVar 2) (tNil))))
 (tNext))
 (tRet (tOp rCat (tLst (tCons (tC (.int 0)) (tNil))) (tMeth A.c_Site "crash" (sp_Site_crash K A) [] E0 (tMeth A.c_Network "site" (sp_Network_site K A) [] E0 (tVar 0) (tCons (tVar 1) (tNil))) tNil))))
def sp_at_risk (K : PySem.W.Frag) (A : Ads) : Sp := fun vs H Q E => ∃ a : Int, SpC A [.int a] (.atRisk a) vs H Q E
theorem len_at_risk : ∀ vs H Q E, sp_at_risk K A vs H Q E → vs.length = (["network", "number"] : List Str).length := by
  rintro vs H Q E ⟨c, W, G, s, k, rfl, _⟩
  rfl
def t_at_risk (K : PySem.W.Frag) (A : Ads) : TS :=
 tSeq (tAsg (tCall (sp_sites_refusal K A) [] E0 (tCons (tVar 0) (tCons (tLst (tCons (tVar 1) (tNil))) (tCons (tC (.bl true)) (tNil))))) (gName 2))
 (tSeq (tIfS (tTest (tOp (rNe) (tVar 2) (tC (.int 0))))
 (tRet (tLst (tCons (tVar 2) (tNil))))
 (tNext))
 (tRet (tOp rCat (tLst (tCons (tC (.int 0)) (tNil))) (tMeth A.c_Site "at_risk" (sp_Site_at_risk K A) [] E0 (tMeth A.c_Network "site" (sp_Network_site K A) [] E0 (tVar 0) (tCons (tVar 1) (tNil))) tNil))))
theorem ev_refusal1 (T : Txt K mg A) {σ : L2.St} {H : Hp} {G : NG} {s : Vbxlac.State} {a : Int} (hN : NetAt A H G s) (h0 : σ[0]? = some (some (.ref (G.ad .net)))) (h1 : σ[1]? = some (some (.int a))) :
    Ev (tCall (sp_sites_refusal K A) [] E0 (tCons (tVar 0) (tCons (tLst (tCons (tVar 1) (tNil))) (tCons (tC (.bl true)) (tNil))))) σ H (.int (siteCode s [a] true)) :=
  ev_callL (ev_var h0) (el_lst (ea_cons (ev_var h1) ea_nil) (by show 1 ≤ 100000; decide)) (fun H1 e1 => ev_c) (fun p H1 e1 h1 => sv_sites_refusal (hN.ex e1) (sq_of h1) (by show 1 ≤ 1000; decide))
theorem site_code {s : Vbxlac.State} {a : Int} (f : Unit → Vbxlac.Result) : Vbxlac.withSites s (Vbxlac.isSite a) [a] f = if siteCode s [a] true = 0 then f () else .error (siteCode s [a] true) := withSites_code s _ [a] f true (by simp)
theorem risk_len (s : Vbxlac.State) (i : Nat) : (riskOf s i).length ≤ 1000000 := by
  show 3 ≤ 1000000
  decide
theorem pure_sync (T : Txt K mg A) (vs : List V) (H : Hp) (Q : VK) (E : XK) (h : sp_sync K A vs H Q E) : t_sync K A { nx := fun _ H' => Q .non H', rt := Q } (start ["network", "number", "refusal"] vs) H := by
  obtain ⟨a, W, G, s, k, rfl, hN, hG, hk, hW, r⟩ := h
  refine q_asg (ev_refusal1 T hN rfl rfl) fun H1 e1 => ?_
  have hN1 := hN.ex e1
  refine q_refuse hN1 rfl (fun hc => RetStep.left (r.of (resOf_error ?_)) e1) fun hc H2 e2 => ?_
  · simp only [Vbxlac.perform, site_code]
    exact if_neg hc
  obtain ⟨x, rfl, x1, x2⟩ := site_facts hc
  have e12 := e1.trans e2
  have pf : Vbxlac.perform s (.sync (x : Int)) = .ok (Vbxlac.syncSite s (x - 1 + 1), riskOf s (x - 1)) := by
    simp only [Vbxlac.perform, site_code]
    rw [if_pos hc]
    unfold riskOf
    rw [show x - 1 + 1 = x by omega] <;> rfl
  refine ret_cat (s := s) (t := Vbxlac.syncSite s (x - 1 + 1)) (hN.ex e12) (risk_len s (x - 1)) (fun H3 e3 Q3 r3 => ?_) (RetStep.left (r.of (resOf_ok pf)) e12)
  have hN3 := hN.ex (e12.trans e3)
  refine ev_site T hN3 x1 x2 (ev_var rfl) (ev_var rfl) H3 (Ex.refl H3) _ fun H4 e4 => ?_
  exact ⟨G.ad (.site (x - 1)), _, _, rfl, (hN3.ex e4).here (.site (x - 1)) (by show _ < s.sites.length; omega), fl_Site_m_sync, W, G, s, x - 1, rfl, hN3.ex e4, hG.sites, by omega, fun q G' H' st _ => r3.left e4 q G' H' st⟩
theorem pure_crash (T : Txt K mg A) (vs : List V) (H : Hp) (Q : VK) (E : XK) (h : sp_crash K A vs H Q E) : t_crash K A { nx := fun _ H' => Q .non H', rt := Q } (start ["network", "number", "refusal"] vs) H := by
  obtain ⟨a, W, G, s, k, rfl, hN, hG, hk, hW, r⟩ := h
  refine q_asg (ev_refusal1 T hN rfl rfl) fun H1 e1 => ?_
  have hN1 := hN.ex e1
  refine q_refuse hN1 rfl (fun hc => RetStep.left (r.of (resOf_error ?_)) e1) fun hc H2 e2 => ?_
  · simp only [Vbxlac.perform, site_code]
    exact if_neg hc
  obtain ⟨x, rfl, x1, x2⟩ := site_facts hc
  have e12 := e1.trans e2
  have pf : Vbxlac.perform s (.crash (x : Int)) = .ok (Vbxlac.crashSite s (x - 1 + 1), riskOf s (x - 1)) := by
    simp only [Vbxlac.perform, site_code]
    rw [if_pos hc]
    unfold riskOf
    rw [show x - 1 + 1 = x by omega] <;> rfl
  refine ret_cat (s := s) (t := Vbxlac.crashSite s (x - 1 + 1)) (hN.ex e12) (risk_len s (x - 1)) (fun H3 e3 Q3 r3 => ?_) (RetStep.left (r.of (resOf_ok pf)) e12)
  have hN3 := hN.ex (e12.trans e3)
  refine ev_site T hN3 x1 x2 (ev_var rfl) (ev_var rfl) H3 (Ex.refl H3) _ fun H4 e4 => ?_
  exact ⟨G.ad (.site (x - 1)), _, _, rfl, (hN3.ex e4).here (.site (x - 1)) (by show _ < s.sites.length; omega), fl_Site_m_crash, W, G, s, x - 1, rfl, hN3.ex e4, hG.sites, by omega, r3.left e4⟩
theorem pure_at_risk (T : Txt K mg A) (vs : List V) (H : Hp) (Q : VK) (E : XK) (h : sp_at_risk K A vs H Q E) : t_at_risk K A { nx := fun _ H' => Q .non H', rt := Q } (start ["network", "number", "refusal"] vs) H := by
  obtain ⟨a, W, G, s, k, rfl, hN, hG, hk, hW, r⟩ := h
  refine q_asg (ev_refusal1 T hN rfl rfl) fun H1 e1 => ?_
  have hN1 := hN.ex e1
  refine q_refuse hN1 rfl (fun hc => RetStep.left (r.of (resOf_error ?_)) e1) fun hc H2 e2 => ?_
  · simp only [Vbxlac.perform, site_code]
    exact if_neg hc
  obtain ⟨x, rfl, x1, x2⟩ := site_facts hc
  have e12 := e1.trans e2
  have pf : Vbxlac.perform s (.atRisk (x : Int)) = .ok (s, riskOf s (x - 1)) := by
    simp only [Vbxlac.perform, site_code]
    rw [if_pos hc]
    unfold riskOf
    rw [show x - 1 + 1 = x by omega] <;> rfl
  refine ret_cat (s := s) (t := s) (hN.ex e12) (risk_len s (x - 1)) (fun H3 e3 Q3 r3 => ?_) (RetStep.left (r.of (resOf_ok pf)) e12)
  have hN3 := hN.ex (e12.trans e3)
  exact el_at_risk T hN3 hG.sites (by omega) (ev_site T hN3 x1 x2 (ev_var rfl) (ev_var rfl)) H3 (Ex.refl H3) _ fun q H4 nq e4 h4 => r3 q G H4 (Step.ofEx hN3 e4) nq (hN3.fresh nq) h4
/-! ### transmit -/
def sp_transmit (K : PySem.W.Frag) (A : Ads) : Sp := fun vs H Q E => ∃ a b : Int, SpC A [.int a, .int b] (.transmit a b) vs H Q E
theorem len_transmit : ∀ vs H Q E, sp_transmit K A vs H Q E → vs.length = (["network", "sender", "receiver"] : List Str).length := by
  rintro vs H Q E ⟨a, b, W, G, s, k, rfl, _⟩
  rfl
def t_transmit (K : PySem.W.Frag) (A : Ads) : TS :=
 tSeq (tAsg (tCall (sp_pair_refusal K A) [] E0 (tCons (tVar 0) (tCons (tVar 1) (tCons (tVar 2) (tCons (tC (.bl true)) (tNil)))))) (gName 3))
 (tSeq (tIfS (tTest (tOp (rNe) (tVar 3) (tC (.int 0))))
 (tRet (tLst (tCons (tVar 3) (tNil))))
 (tNext))
 (tSeq (tIfS (tB (tCall (sp_has_message K A) [] E0 (tCons (tVar 0) (tCons (tVar 1) (tCons (tVar 2) (tNil))))))
 (tRet (tLst (tCons (tC (.int (-8))) (tNil))))
 (tNext))
 (tRet (tOp rCat (tLst (tCons (tC (.int 0)) (tNil))) (tCall (sp_transmit_durable K A) [] E0 (tCons (tVar 0) (tCons (tVar 1) (tCons (tVar 2) (tNil)))))))))
theorem pure_transmit (T : Txt K mg A) (vs : List V) (H : Hp) (Q : VK) (E : XK) (h : sp_transmit K A vs H Q E) : t_transmit K A { nx := fun _ H' => Q .non H', rt := Q } (start ["network", "sender", "receiver", "refusal"] vs) H := by
  obtain ⟨a, b, W, G, s, k, rfl, hN, hG, hk, hW, r⟩ := h
  refine q_asg (ev_call (ea_cons (ev_var rfl) (ea_cons (ev_var rfl) (ea_cons (ev_var rfl) (ea_cons ev_c ea_nil)))) (sv_pair_refusal hN)) fun H1 e1 => ?_
  have hN1 := hN.ex e1
  refine q_refuse hN1 rfl (fun hc => RetStep.left (r.of (resOf_error ?_)) e1) fun hc H2 e2 => ?_
  · simp only [Vbxlac.perform, withPair_code]
    exact if_neg hc
  obtain ⟨_, x, y, rfl, rfl, x1, x2, y1, y2, xy⟩ := pair_facts hc
  have e12 := e1.trans e2
  have hN2 := hN.ex e12
  have pf : Vbxlac.perform s (.transmit (x : Int) (y : Int)) = if Vbxlac.isOnWires s x y = true then .error (-8)
      else .ok (Vbxlac.transmit s x y, [Vbxlac.toInt (Vbxlac.transmittedPackets s x y).length - 1, Vbxlac.toInt (ld s x y).received.length]) := by
    simp only [Vbxlac.perform, withPair_code]
    exact if_pos hc
  refine q_when (et_B (ev_call (ea_cons (ev_var rfl) (ea_cons (ev_var rfl) (ea_cons (ev_var rfl) ea_nil))) (sv_has_message hN2 hG.wires))) (fun hd H3 e3 => ?_) (fun hd H3 e3 => ?_)
  · refine ret_step (Step.ofEx hN (e12.trans e3)) (el_one ev_c) (r.of (resOf_error ?_))
    rw [pf, if_pos hd]
  · have e13 := e12.trans e3
    have pf2 : Vbxlac.perform s (.transmit (x : Int) (y : Int)) = .ok (Vbxlac.transmit s x y, [(((ld s x y).sent.length - (ld s x y).acknowledged : Nat) : Int), ((ld s x y).received.length : Int)]) := by
      rw [pf, if_neg (by rw [hd]; decide), (transmitted_length hG.sites x y).1]
      show Except.ok (_, [((((ld s x y).sent.length - (ld s x y).acknowledged + 1 : Nat)) : Int) - 1, ((ld s x y).received.length : Int)]) = _
      congr 3
      omega
    refine ret_cat (s := s) (t := Vbxlac.transmit s x y) (hN.ex e13) (by show 2 ≤ 1000000; decide) (fun H4 e4 Q4 r4 => ?_) (RetStep.left (r.of (resOf_ok pf2)) e13)
    have hw : s.wires.length ≤ 500000 := by have := hG.room; omega
    exact ⟨_, rfl, _, rfl, _, rfl, W, G, s, x, y, rfl, hN.ex (e13.trans e4), hG.sites, x1, x2, y1, y2, hw, r4⟩
end Sur
namespace Sur
open PySem PySem.Spec PyProof.Rows L2 Evl
variable {P : Program} {w : World} {K : PySem.W.Frag} {mg : Str → Option Value} {base : Heap} {A : Ads} {W : Addr → Prop}
/-! ## The calls 6 to 9 -/
def sp_deliver (K : PySem.W.Frag) (A : Ads) : Sp := fun vs H Q E => ∃ i : Int, SpC A [.int i] (.deliver i) vs H Q E
theorem len_deliver : ∀ vs H Q E, sp_deliver K A vs H Q E → vs.length = (["network", "index"] : List Str).length := by
  rintro vs H Q E ⟨i, W, G, s, k, rfl, _⟩
  rfl
def t_deliver (K : PySem.W.Frag) (A : Ads) : TS :=
 tSeq (tAsg (tCall (sp_packet_refusal K A) [] E0 (tCons (tVar 0) (tCons (tVar 1) (tCons (tC (.bl true)) (tNil))))) (gName 2))
 (tSeq (tIfS (tTest (tOp (rNe) (tVar 2) (tC (.int 0))))
 (tRet (tLst (tCons (tVar 2) (tNil))))
 (tNext))
 (tRet (tOp rCat (tLst (tCons (tC (.int 0)) (tNil))) (tCall (sp_deliver_packet K A) [] E0 (tCons (tVar 0) (tCons (tVar 1) (tNil)))))))
theorem pure_deliver (T : Txt K mg A) (vs : List V) (H : Hp) (Q : VK) (E : XK) (h : sp_deliver K A vs H Q E) : t_deliver K A { nx := fun _ H' => Q .non H', rt := Q } (start ["network", "index", "refusal"] vs) H := by
  obtain ⟨i, W, G, s, k, rfl, hN, hG, hk, hW, r⟩ := h
  refine q_asg (ev_call (ea_cons (ev_var rfl) (ea_cons (ev_var rfl) (ea_cons ev_c ea_nil))) (sv_packet_refusal hN)) fun H1 e1 => ?_
  have hN1 := hN.ex e1
  refine q_refuse hN1 rfl (fun hc => RetStep.left (r.of (resOf_error ?_)) e1) fun hc H2 e2 => ?_
  · simp only [Vbxlac.perform, withPacket_code]
    exact if_neg hc
  obtain ⟨_, j, rfl, hj⟩ := pkt_facts hc
  have e12 := e1.trans e2
  have pf : Vbxlac.perform s (.deliver (j : Int)) = .ok ((Vbxlac.receive (popW s j) (wireOf s j).bytes).1, delAns (Vbxlac.receive (popW s j) (wireOf s j).bytes)) := by
    simp only [Vbxlac.perform, withPacket_code]
    exact if_pos hc
  refine ret_cat (s := s) (hN.ex e12) ?_ (fun H3 e3 Q3 r3 => ?_) (RetStep.left (r.of (resOf_ok pf)) e12)
  · unfold delAns
    cases (Vbxlac.receive (popW s j) (wireOf s j).bytes).2.2 with
    | none => show 1 ≤ 1000000; decide
    | some p => show 4 ≤ 1000000; decide
  · have hw : s.wires.length ≤ 1000000 := by have := hG.room; omega
    exact ⟨_, rfl, _, rfl, W, G, s, j, rfl, hN.ex (e12.trans e3), hG.sites, hj, hw, (hG.wire hj).ok, fun a ha => hW a (fresh_back (e12.trans e3) ha), r3⟩
def sp_lose (K : PySem.W.Frag) (A : Ads) : Sp := fun vs H Q E => ∃ i : Int, SpC A [.int i] (.lose i) vs H Q E
theorem len_lose : ∀ vs H Q E, sp_lose K A vs H Q E → vs.length = (["network", "index"] : List Str).length := by
  rintro vs H Q E ⟨i, W, G, s, k, rfl, _⟩
  rfl
def t_lose (K : PySem.W.Frag) (A : Ads) : TS :=
 tSeq (tAsg (tCall (sp_packet_refusal K A) [] E0 (tCons (tVar 0) (tCons (tVar 1) (tCons (tC (.bl true)) (tNil))))) (gName 2))
 (tSeq (tIfS (tTest (tOp (rNe) (tVar 2) (tC (.int 0))))
 (tRet (tLst (tCons (tVar 2) (tNil))))
 (tNext))
 (tSeq (tDrop (tBM K "list" rPopAt (tFld K (tVar 0) "wires") (tCons (tVar 1) (tNil))))
 (tRet (tLst (tCons (tC (.int 0)) (tCons (tCB (rLenS K) (tCons (tFld K (tVar 0) "wires") (tNil))) (tNil)))))))
theorem pure_lose (T : Txt K mg A) (vs : List V) (H : Hp) (Q : VK) (E : XK) (h : sp_lose K A vs H Q E) : t_lose K A { nx := fun _ H' => Q .non H', rt := Q } (start ["network", "index", "refusal"] vs) H := by
  obtain ⟨i, W, G, s, k, rfl, hN, hG, hk, hW, r⟩ := h
  refine q_asg (ev_call (ea_cons (ev_var rfl) (ea_cons (ev_var rfl) (ea_cons ev_c ea_nil))) (sv_packet_refusal hN)) fun H1 e1 => ?_
  have hN1 := hN.ex e1
  refine q_refuse hN1 rfl (fun hc => RetStep.left (r.of (resOf_error ?_)) e1) fun hc H2 e2 => ?_
  · simp only [Vbxlac.perform, withPacket_code]
    exact if_neg hc
  obtain ⟨_, j, rfl, hj⟩ := pkt_facts hc
  have e12 := e1.trans e2
  have pf : Vbxlac.perform s (.lose (j : Int)) = .ok (popW s j, [Vbxlac.toInt s.wires.length - 1]) := by
    simp only [Vbxlac.perform, withPacket_code]
    exact if_pos hc
  have hw : s.wires.length ≤ 1000000 := by have := hG.room; omega
  refine q_tDrop (ev_wires T (hN.ex e12) (ev_var rfl) H2 (Ex.refl H2) _ fun H3 e3 => ⟨Or.inl ⟨rfl, _, sq_wires (hN.ex (e12.trans e3))⟩, ?_⟩)
  refine ⟨.int (j : Int), rfl, ?_⟩
  have e13 := e12.trans e3
  have hN3 := hN.ex e13
  have hlen : ((List.range s.wires.length).map fun j => V.ref (G.ad (.wire j))).length = s.wires.length := by simp
  refine ⟨G.ad .wiresL, _, (j : Int), j, .ref (G.ad (.wire j)), rfl, rfl, hN3.here .wiresL trivial, by omega, by omega, ?_, range_at hj, ?_⟩
  · rw [seqIndex_of (by omega) (by rw [hlen]; omega)]
    simp
  obtain ⟨st, _, _⟩ := Step.popW hN3 hj
  have lp : (popW s j).wires.length = s.wires.length - 1 := by
    show (s.wires.eraseIdx j).length = _
    rw [List.length_eraseIdx_of_lt hj]
  refine ret_step (ans := [0, Vbxlac.toInt s.wires.length - 1]) (st.left e13) (el_lst (ea_cons ev_c (ea_cons (ev_is (ev_len (ev_wires T st.1 (by show Ev (tVar 0) _ _ (.ref (G.ad .net)); exact ev_var rfl)) (sq_wires st.1)) ?_) ea_nil)) (by show 2 ≤ 100000; decide)) (r.of (resOf_ok pf))
  show V.int _ = V.int ((s.wires.length : Int) - 1)
  congr 1
  rw [List.length_map, List.length_range, lp]
  omega
def sp_duplicate (K : PySem.W.Frag) (A : Ads) : Sp := fun vs H Q E => ∃ i : Int, SpC A [.int i] (.duplicate i) vs H Q E
theorem len_duplicate : ∀ vs H Q E, sp_duplicate K A vs H Q E → vs.length = (["network", "index"] : List Str).length := by
  rintro vs H Q E ⟨i, W, G, s, k, rfl, _⟩
  rfl
def t_duplicate (K : PySem.W.Frag) (A : Ads) : TS :=
 tSeq (tAsg (tCall (sp_packet_refusal K A) [] E0 (tCons (tVar 0) (tCons (tVar 1) (tCons (tC (.bl true)) (tNil))))) (gName 2))
 (tSeq (tIfS (tTest (tOp (rNe) (tVar 2) (tC (.int 0))))
 (tRet (tLst (tCons (tVar 2) (tNil))))
 (tNext))
 (tSeq (tIfS (tTest (tOp (rGe) (tFld K (tVar 0) "duplicated") (tC (.int (100)))))
 (tRet (tLst (tCons (tC (.int (-7))) (tNil))))
 (tNext))
 (tSeq (tDrop (tBM K "list" rAppend (tFld K (tVar 0) "wires") (tCons (tMeth A.c_WirePacket "twin" (sp_WirePacket_twin K A) [] E0 (tOp (rIxL K) (tFld K (tVar 0) "wires") (tVar 1)) tNil) (tNil))))
 (tSeq (sFld K (tVar 0) (tOp rPlus (tFld K (tVar 0) "duplicated") (tC (.int 1))) "duplicated")
 (tRet (tLst (tCons (tC (.int 0)) (tCons (tCB (rLenS K) (tCons (tFld K (tVar 0) "wires") (tNil))) (tNil)))))))))
/-- the count of the duplicated put anew -/
theorem Step.dup {H : Hp} {G : NG} {s : Vbxlac.State} (h : NetAt A H G s) (d : Nat) : Step A W H G s (upd H (G.ad .net) (.ins A.c_Network (G.dx .net) (fl_Network (.ref (G.ad .sitesL)) (.ref (G.ad .wiresL)) (.int (d : Int))))) G { s with duplicated := d } :=
  h.write (r0 := .net) (s' := { s with duplicated := d }) trivial rfl rfl rfl rfl (fun r hr hne => by cases r <;> first | exact absurd rfl hne | rfl) (fun i k c hi hc => h.pay i k c hi hc) (fun i k c hi hc a ha r hr e => h.out r i k c hr hi hc (e ▸ ha)) (fun a hz => .inl hz)
theorem pure_duplicate (T : Txt K mg A) (vs : List V) (H : Hp) (Q : VK) (E : XK) (h : sp_duplicate K A vs H Q E) : t_duplicate K A { nx := fun _ H' => Q .non H', rt := Q } (start ["network", "index", "refusal"] vs) H := by
  obtain ⟨i, W, G, s, k, rfl, hN, hG, hk, hW, r⟩ := h
  refine q_asg (ev_call (ea_cons (ev_var rfl) (ea_cons (ev_var rfl) (ea_cons ev_c ea_nil))) (sv_packet_refusal hN)) fun H1 e1 => ?_
  have hN1 := hN.ex e1
  refine q_refuse hN1 rfl (fun hc => RetStep.left (r.of (resOf_error ?_)) e1) fun hc H2 e2 => ?_
  · simp only [Vbxlac.perform, withPacket_code]
    exact if_neg hc
  obtain ⟨_, j, rfl, hj⟩ := pkt_facts hc
  have e12 := e1.trans e2
  have pf : Vbxlac.perform s (.duplicate (j : Int)) = if Vbxlac.maxDuplicates ≤ s.duplicated then .error (-7) else .ok ({ s with wires := s.wires ++ [wireOf s j], duplicated := s.duplicated + 1 }, [Vbxlac.toInt s.wires.length + 1]) := by
    simp only [Vbxlac.perform, withPacket_code]
    exact if_pos hc
  refine q_when (et_test (ev_op (ev_duplicated T (hN.ex e12) (ev_var rfl)) ev_c rv_I0)) (fun hd H3 e3 => ?_) (fun hd H3 e3 => ?_)
  · refine ret_step (Step.ofEx hN (e12.trans e3)) (el_one ev_c) (r.of (resOf_error ?_))
    rw [pf]
    refine if_pos ?_
    have := of_decide_eq_true hd
    show 100 ≤ s.duplicated
    omega
  · have hlt : ¬ Vbxlac.maxDuplicates ≤ s.duplicated := by
      have := of_decide_eq_false hd
      show ¬ 100 ≤ s.duplicated
      omega
    have e13 := e12.trans e3
    have hw : s.wires.length ≤ 1000000 := by have := hG.room; omega
    refine q_tDrop (ev_wires T (hN.ex e13) (ev_var rfl) H3 (Ex.refl H3) _ fun H4 e4 => ⟨Or.inl ⟨rfl, _, sq_wires (hN.ex (e13.trans e4))⟩, ?_⟩)
    have e14 := e13.trans e4
    have hN4 := hN.ex e14
    refine ev_wireAt T hN4 hj (ev_var rfl) (ev_var rfl) H4 (Ex.refl H4) _ fun H5 e5 => ?_
    have hN5 := hN4.ex e5
    refine ⟨G.ad (.wire j), _, _, rfl, hN5.here (.wire j) hj, fl_WirePacket_m_twin, ?_⟩
    refine ⟨G, s, j, rfl, hN5, hj, fun x dx o H6 nx no xo e6 hx ho => ?_⟩
    refine ⟨G.ad .wiresL, _, .ref x, rfl, rfl, (hN5.ex e6).here .wiresL trivial, ?_, ?_⟩
    · rw [List.length_map, List.length_range]
      exact Nat.lt_of_le_of_lt hw (by decide)
    have st1 := Step.addW (W := W) (w := wireOf s j) hN5 e6 nx no xo hx ho
    refine q_sFld (ev_op (ev_duplicated T st1.1 (by show Ev (tVar 0) _ _ (.ref (G.ad .net)); exact ev_var rfl)) ev_c rv_I0 _ (Ex.refl _) _ fun H7 e7 => ?_)
    have st2 := st1.right e7
    refine ⟨_, rfl, G.ad .net, _, _, _, rfl, st2.1.here .net trivial, T.cl_Network, T.n_Network_duplicated, fl_Network_few, ?_⟩
    rw [fl_Network_put_duplicated]
    have st3 := st2.trans (Step.dup st2.1 (s.duplicated + 1))
    have e15 := e14.trans e5
    have ee : ((addW s (wireOf s j)).duplicated : Int) + 1 = ((s.duplicated + 1 : Nat) : Int) := rfl
    rw [ee]
    refine ret_step (ans := [0, Vbxlac.toInt s.wires.length + 1]) (st3.left e15) (el_lst (ea_cons ev_c (ea_cons (ev_is (ev_len (ev_wires T st3.1 (by show Ev (tVar 0) _ _ (.ref (G.ad .net)); exact ev_var rfl)) (sq_wires st3.1)) ?_) ea_nil)) (by show 2 ≤ 100000; decide)) (r.of (resOf_ok ?_))
    · show V.int _ = V.int ((s.wires.length : Int) + 1)
      congr 1
      rw [List.length_map, List.length_range]
      show (((s.wires ++ [wireOf s j]).length : Nat) : Int) = _
      rw [List.length_append, List.length_singleton]
      omega
    · rw [pf, if_neg hlt]
      rfl
/-! ### damage -/
def sp_damage (K : PySem.W.Frag) (A : Ads) : Sp := fun vs H Q E => ∃ i p v : Int, SpC A [.int i, .int p, .int v] (.damage i p v) vs H Q E
theorem len_damage : ∀ vs H Q E, sp_damage K A vs H Q E → vs.length = (["network", "index", "position", "value"] : List Str).length := by
  rintro vs H Q E ⟨i, p, v, W, G, s, k, rfl, _⟩
  rfl
def t_damage (K : PySem.W.Frag) (A : Ads) : TS :=
 tSeq (tAsg (tCall (sp_packet_refusal K A) [] E0 (tCons (tVar 0) (tCons (tVar 1) (tCons (tCall (sp_is_octet K A) [] E0 (tCons (tVar 3) (tNil))) (tNil))))) (gName 4))
 (tSeq (tIfS (tTest (tOp (rNe) (tVar 4) (tC (.int 0))))
 (tRet (tLst (tCons (tVar 4) (tNil))))
 (tNext))
 (tSeq (tAsg (tOp (rIxL K) (tFld K (tVar 0) "wires") (tVar 1)) (gName 5))
 (tSeq (tIfS (tOr (tB (tFld K (tVar 5) "damaged")) (tNot (tTest (tChain rLe rLt (tC (.int 0)) (tVar 2) (tCB (rLenS K) (tCons (tFld K (tVar 5) "octets") (tNil)))))))
 (tRet (tLst (tCons (tC (.int (-9))) (tNil))))
 (tNext))
 (tSeq (tAsg (tOp (rIxL K) (tFld K (tVar 5) "octets") (tVar 2)) (gName 6))
 (tSeq (tIfS (tTest (tOp (rEq) (tVar 6) (tVar 3)))
 (tRet (tLst (tCons (tC (.int (-9))) (tNil))))
 (tNext))
 (tSeq (tAsg (tVar 3) (gSub (tFld K (tVar 5) "octets") (tVar 2) rSetL))
 (tSeq (sFld K (tVar 5) (tC (.bl true)) "damaged")
 (tRet (tLst (tCons (tC (.int 0)) (tCons (tVar 6) (tNil))))))))))))
/-- a wire put anew in the state -/
def setW (s : Vbxlac.State) (i : Nat) (w : Vbxlac.WirePacket) : Vbxlac.State := { s with wires := s.wires.set i w }
theorem wireOf_set {s : Vbxlac.State} {i : Nat} (hi : i < s.wires.length) (w : Vbxlac.WirePacket) (j : Nat) : wireOf (setW s i w) j = if j = i then w else wireOf s j := by
  unfold wireOf setW
  show ((s.wires.set i w)[j]?).getD _ = _
  rw [List.getElem?_set]
  by_cases h : j = i
  · subst h
    simp [hi]
  · rw [if_neg (fun z => h z.symm), if_neg h]
theorem Step.bytes {H : Hp} {G : NG} {s : Vbxlac.State} (h : NetAt A H G s) {i : Nat} (hi : i < s.wires.length) (bs : List Nat) : Step A W H G s (upd H (G.ad (.oct i)) (.lst (byV bs))) G (setW s i ⟨bs, (wireOf s i).damaged⟩) := by
  have ln : (setW s i ⟨bs, (wireOf s i).damaged⟩).wires.length = s.wires.length := List.length_set ..
  refine h.write (r0 := .oct i) (s' := setW s i ⟨bs, (wireOf s i).damaged⟩) hi rfl ln rfl ?_ (fun r hr hne => ?_) (fun i k c hi hc => h.pay i k c hi hc) (fun i k c hi hc a ha r hr e => h.out r i k c hr hi hc (e ▸ ha)) (fun a hz => .inl hz)
  · show HO.lst (byV (wireOf (setW s i _) i).bytes) = _
    rw [wireOf_set hi, if_pos rfl]
  · cases r with
    | oct j =>
      have hj : j ≠ i := fun z => hne (by rw [z])
      show HO.lst (byV (wireOf (setW s i _) j).bytes) = HO.lst (byV (wireOf s j).bytes)
      rw [wireOf_set hi, if_neg hj]
    | wire j =>
      show HO.ins _ _ (fl_WirePacket _ (.bl (wireOf (setW s i _) j).damaged)) = HO.ins _ _ (fl_WirePacket _ (.bl (wireOf s j).damaged))
      rw [wireOf_set hi]
      by_cases z : j = i
      · rw [if_pos z, z]
      · rw [if_neg z]
    | wiresL =>
      show HO.lst ((List.range (setW s i _).wires.length).map _) = HO.lst ((List.range s.wires.length).map _)
      rw [ln]
    | _ => rfl
theorem Step.marked {H : Hp} {G : NG} {s : Vbxlac.State} (h : NetAt A H G s) {i : Nat} (hi : i < s.wires.length) : Step A W H G s (upd H (G.ad (.wire i)) (.ins A.c_WirePacket (G.dx (.wire i)) (fl_WirePacket (.ref (G.ad (.oct i))) (.bl true)))) G (setW s i ⟨(wireOf s i).bytes, true⟩) := by
  have ln : (setW s i ⟨(wireOf s i).bytes, true⟩).wires.length = s.wires.length := List.length_set ..
  refine h.write (r0 := .wire i) (s' := setW s i ⟨(wireOf s i).bytes, true⟩) hi rfl ln rfl ?_ (fun r hr hne => ?_) (fun i k c hi hc => h.pay i k c hi hc) (fun i k c hi hc a ha r hr e => h.out r i k c hr hi hc (e ▸ ha)) (fun a hz => .inl hz)
  · show HO.ins _ _ (fl_WirePacket _ (.bl (wireOf (setW s i _) i).damaged)) = _
    rw [wireOf_set hi, if_pos rfl]
  · cases r with
    | wire j =>
      have hj : j ≠ i := fun z => hne (by rw [z])
      show HO.ins _ _ (fl_WirePacket _ (.bl (wireOf (setW s i _) j).damaged)) = HO.ins _ _ (fl_WirePacket _ (.bl (wireOf s j).damaged))
      rw [wireOf_set hi, if_neg hj]
    | oct j =>
      show HO.lst (byV (wireOf (setW s i _) j).bytes) = HO.lst (byV (wireOf s j).bytes)
      rw [wireOf_set hi]
      by_cases z : j = i
      · rw [if_pos z, z]
      · rw [if_neg z]
    | wiresL =>
      show HO.lst ((List.range (setW s i _).wires.length).map _) = HO.lst ((List.range s.wires.length).map _)
      rw [ln]
    | _ => rfl
theorem setW_setW {s : Vbxlac.State} {i : Nat} (hi : i < s.wires.length) (bs : List Nat) : setW (setW s i ⟨bs, (wireOf s i).damaged⟩) i ⟨(wireOf (setW s i ⟨bs, (wireOf s i).damaged⟩) i).bytes, true⟩ = setW s i ⟨bs, true⟩ := by
  rw [wireOf_set hi, if_pos rfl]
  unfold setW
  simp
theorem pure_damage (T : Txt K mg A) (vs : List V) (H : Hp) (Q : VK) (E : XK) (h : sp_damage K A vs H Q E) : t_damage K A { nx := fun _ H' => Q .non H', rt := Q } (start ["network", "index", "position", "value", "refusal", "carried", "old_value"] vs) H := by
  obtain ⟨i, p, v, W, G, s, k, rfl, hN, hG, hk, hW, r⟩ := h
  refine q_asg (ev_call (ea_cons (ev_var rfl) (ea_cons (ev_var rfl) (ea_cons (ev_call (ea_cons (ev_var rfl) ea_nil) sv_is_octet) ea_nil))) (sv_packet_refusal hN)) fun H1 e1 => ?_
  have hN1 := hN.ex e1
  refine q_refuse hN1 rfl (fun hc => RetStep.left (r.of (resOf_error ?_)) e1) fun hc H2 e2 => ?_
  · simp only [Vbxlac.perform, withPacket_code]
    exact if_neg hc
  obtain ⟨hv, j, rfl, hj⟩ := pkt_facts hc
  have hv2 : 0 ≤ v ∧ v ≤ 255 := by simpa using hv
  have e12 := e1.trans e2
  have ok := hG.wire hj
  have pf : Vbxlac.perform s (.damage (j : Int) p v) = (match (if p < 0 then none else (wireOf s j).bytes[p.toNat]?) with
      | none => .error (-9)
      | some old => if (wireOf s j).damaged = true ∨ Vbxlac.toInt old = v then .error (-9) else .ok (setW s j ⟨(wireOf s j).bytes.set p.toNat v.toNat, true⟩, [Vbxlac.toInt old])) := by
    simp only [Vbxlac.perform, withPacket_code]
    exact if_pos hc
  refine q_asg (v := .ref (G.ad (.wire j))) (ev_wireAt T (hN.ex e12) hj (ev_var rfl) (ev_var rfl)) fun H3 e3 => ?_
  have e13 := e12.trans e3
  have hN3 := hN.ex e13
  refine q_when (b := (wireOf s j).damaged || !(decide (0 ≤ p) && decide (p < ((wireOf s j).bytes.length : Int)))) ?_ (fun hd H4 e4 => ?_) (fun hd H4 e4 => ?_)
  · refine et_or (et_B (ev_damaged T hN3 hj (ev_var rfl))) fun _ => et_not (et_test (ev_is (ev_chain ev_c (ev_var rfl) rv_I0 (fun _ => ev_len (ev_octets T hN3 hj (ev_var rfl)) (sq_of (hN3.here (.oct j) hj))) (fun _ => rv_I0)) ?_))
    rw [byV_len]
  · refine ret_step (Step.ofEx hN (e13.trans e4)) (el_one ev_c) (r.of (resOf_error ?_))
    rw [pf]
    simp only [Bool.or_eq_true, Bool.not_eq_true', Bool.and_eq_false_iff, decide_eq_false_iff_not] at hd
    by_cases hp : p < 0
    · rw [if_pos hp]
    · rw [if_neg hp]
      cases hb : (wireOf s j).bytes[p.toNat]? with
      | none => rfl
      | some old =>
        have hl := (List.getElem?_eq_some_iff.mp hb).1
        have hdm : (wireOf s j).damaged = true := by
          rcases hd with hd | hd | hd
          · exact hd
          · omega
          · omega
        exact if_pos (.inl hdm)
  · simp only [Bool.or_eq_false_iff, Bool.not_eq_false', Bool.and_eq_true, decide_eq_true_eq] at hd
    obtain ⟨hdm, p0, p1⟩ := hd
    obtain ⟨n, rfl⟩ : ∃ n : Nat, p = (n : Int) := ⟨p.toNat, by omega⟩
    have hn : n < (wireOf s j).bytes.length := by omega
    have hb : (wireOf s j).bytes[n]? = some ((wireOf s j).bytes[n]) := List.getElem?_eq_getElem hn
    have pf2 : Vbxlac.perform s (.damage (j : Int) (n : Int) v) = if (wireOf s j).damaged = true ∨ Vbxlac.toInt ((wireOf s j).bytes[n]) = v then .error (-9) else .ok (setW s j ⟨(wireOf s j).bytes.set n v.toNat, true⟩, [Vbxlac.toInt ((wireOf s j).bytes[n])]) := by
      rw [pf, if_neg (by omega)]
      simp only [Int.toNat_natCast, hb]
    have e14 := e13.trans e4
    have hN4 := hN.ex e14
    refine q_asg (v := .int (((wireOf s j).bytes[n] : Nat) : Int)) (ev_ixL (j := n) (ev_octets T hN4 hj (ev_var rfl)) (ev_var rfl) (sq_of (hN4.here (.oct j) hj)) (at_byV hb)) fun H5 e5 => ?_
    have e15 := e14.trans e5
    refine q_when (et_test (ev_op (ev_var rfl) (ev_var rfl) (rv_eq rfl))) (fun hq H6 e6 => ?_) (fun hq H6 e6 => ?_)
    · refine ret_step (Step.ofEx hN (e15.trans e6)) (el_one ev_c) (r.of (resOf_error ?_))
      rw [pf2]
      exact if_pos (.inr (vint_eq hq))
    · have e16 := e15.trans e6
      have hN6 := hN.ex e16
      have hne : ¬ ((wireOf s j).damaged = true ∨ Vbxlac.toInt ((wireOf s j).bytes[n]) = v) := by
        rintro (z | z)
        · rw [hdm] at z; cases z
        · exact vint_ne hq z
      have setv : (byV (wireOf s j).bytes).set n (.int v) = byV ((wireOf s j).bytes.set n v.toNat) := by
        unfold byV
        rw [List.map_set]
        congr 2
        omega
      refine q_setL (j := n) (hN6.here (.oct j) hj) (ev_var rfl) (ev_octets T hN6 hj (ev_var rfl)) (ev_var rfl) (by rw [byV_len]; exact hn) fun H7 e7 => ?_
      rw [setv]
      have hN7 := hN6.ex e7
      have st1 := Step.bytes (W := W) hN7 hj ((wireOf s j).bytes.set n v.toNat)
      have hj1 : j < (setW s j ⟨(wireOf s j).bytes.set n v.toNat, (wireOf s j).damaged⟩).wires.length := by
        show j < (s.wires.set j _).length
        rw [List.length_set]
        exact hj
      refine q_sFld (ev_c _ (Ex.refl _) _ fun H8 e8 => ?_)
      have st2 := st1.right e8
      refine ⟨_, rfl, G.ad (.wire j), _, _, _, rfl, st2.1.here (.wire j) hj1, T.cl_WirePacket, T.n_WirePacket_damaged, fl_WirePacket_few, ?_⟩
      rw [fl_WirePacket_put_damaged]
      have st3 := st2.trans (Step.marked st2.1 hj1)
      rw [setW_setW hj] at st3
      have e17 := e16.trans e7
      refine ret_step (ans := [0, Vbxlac.toInt ((wireOf s j).bytes[n])]) (st3.left e17) (el_lst (ea_cons ev_c (ea_cons (ev_var rfl) ea_nil)) (by show 2 ≤ 100000; decide)) (r.of (resOf_ok ?_))
      rw [pf2, if_neg hne]
end Sur
namespace Sur
open PySem PySem.Spec PyProof.Rows L2 Evl
variable {P : Program} {w : World} {K : PySem.W.Frag} {mg : Str → Option Value} {base : Heap} {A : Ads} {W : Addr → Prop}
/-! ## Two copies compared -/
theorem eqv_map {α : Type} [DecidableEq α] (f : α → PyData) (h : ∀ x y, PyData.eqv (f x) (f y) = decide (x = y)) : ∀ xs ys : List α, PyData.eqvAll (xs.map f) (ys.map f) = decide (xs = ys)
  | [], [] => by simp [PyData.eqvAll]
  | [], y :: ys => by simp [PyData.eqvAll]
  | x :: xs, [] => by simp [PyData.eqvAll]
  | x :: xs, y :: ys => by
    simp only [List.map_cons, PyData.eqvAll, h, eqv_map f h xs ys]
    by_cases e : x = y
    · subst e; simp
    · simp [e]
theorem lay_map {α : Type} (f : α → PyData) (h : ∀ x, PyData.canLay0 (f x) = true) : ∀ xs : List α, PyData.canLayAll0 (xs.map f) = true
  | [] => by simp [PyData.canLayAll0]
  | x :: xs => by simp [PyData.canLayAll0, h x, lay_map f h xs]
theorem depth_map {α : Type} (f : α → PyData) {d : Nat} (h : ∀ x, PyData.depth (f x) ≤ d) : ∀ xs : List α, PyData.depthAll (xs.map f) ≤ d
  | [] => by simp [PyData.depthAll]
  | x :: xs => by
    have h1 := h x
    have h2 := depth_map f h xs
    simp only [List.map_cons, PyData.depthAll]
    omega
def dInt (n : Nat) : PyData := .int (n : Int)
def dMsg (m : List Nat) : PyData := .list (m.map dInt)
def dMsgs (l : List (List Nat)) : PyData := .list (l.map dMsg)
theorem eqv_dInt (x y : Nat) : PyData.eqv (dInt x) (dInt y) = decide (x = y) := by
  unfold dInt
  rw [PyData.eqv]
  by_cases h : x = y
  · subst h; simp
  · rw [beq_eq_false_iff_ne.mpr (by omega)]
    simp [h]
theorem eqv_dMsg (x y : List Nat) : PyData.eqv (dMsg x) (dMsg y) = decide (x = y) := by
  unfold dMsg
  rw [PyData.eqv]
  exact eqv_map dInt eqv_dInt x y
theorem eqv_dMsgs (x y : List (List Nat)) : PyData.eqv (dMsgs x) (dMsgs y) = decide (x = y) := by
  unfold dMsgs
  rw [PyData.eqv]
  exact eqv_map dMsg eqv_dMsg x y
theorem lay_dInt (x : Nat) : PyData.canLay0 (dInt x) = true := by
  unfold dInt
  simp [PyData.canLay0]
theorem lay_dMsg (x : List Nat) : PyData.canLay0 (dMsg x) = true := by
  unfold dMsg
  rw [PyData.canLay0]
  exact lay_map dInt lay_dInt x
theorem lay_dMsgs (x : List (List Nat)) : PyData.canLay0 (dMsgs x) = true := by
  unfold dMsgs
  rw [PyData.canLay0]
  exact lay_map dMsg lay_dMsg x
theorem depth_dInt (x : Nat) : PyData.depth (dInt x) ≤ 0 := by
  unfold dInt
  simp [PyData.depth]
theorem depth_dMsg (x : List Nat) : PyData.depth (dMsg x) ≤ 1 := by
  unfold dMsg
  rw [PyData.depth]
  have := depth_map dInt depth_dInt x
  omega
theorem depth_dMsgs (x : List (List Nat)) : PyData.depth (dMsgs x) ≤ 2 := by
  unfold dMsgs
  rw [PyData.depth]
  have := depth_map dMsg depth_dMsg x
  omega
theorem shaped_map {α : Type} (f : α → PyData) {d : Nat} (h1 : ∀ x, PyData.canLay0 (f x) = true) (h2 : ∀ x, PyData.depth (f x) ≤ d) (hd : d ≤ 60) (xs : List α) : SeqAt.shaped (.list (xs.map f)) = true := by
  unfold SeqAt.shaped
  rw [PyData.canLay0, PyData.depth, lay_map f h1 xs, Bool.true_and, decide_eq_true_eq]
  have := depth_map f h2 xs
  omega
theorem dpAll_of {H : Hp} : ∀ (vs : List V) (ds : List PyData), vs.length = ds.length → (∀ (i : Nat) v d, vs[i]? = some v → ds[i]? = some d → Dp K H v d) → DpAll K H vs ds
  | [], [], _, _ => .nil
  | [], _ :: _, h, _ => by cases h
  | _ :: _, [], h, _ => by cases h
  | v :: vs, d :: ds, h, q => .cons (q 0 v d rfl rfl) (dpAll_of vs ds (by simpa using h) fun i w e h1 h2 => q (i + 1) w e (by simpa using h1) (by simpa using h2))
theorem dp_byV {H : Hp} {a : Addr} {m : List Nat} (h : H a = some (.lst (byV m))) : Dp K H (.ref a) (dMsg m) := .lst (sq_of h) (dpAll_of _ _ (by simp [byV]) fun i v d hv hd => by
  obtain ⟨b, hb, rfl⟩ := byV_at hv
  rw [List.getElem?_map, hb] at hd
  cases hd
  exact .int _)
section
variable {H : Hp} {n : Nat} {g g' : CG} {l l' : List Vbxlac.Link}
theorem dp_pays {as : List Addr} {ms : List Vbxlac.Bytes} (h : Pays H as ms) : DpAll K H (as.map .ref) (ms.map dMsg) := dpAll_of _ _ (by simp [h.1]) fun i v d hv hd => by
  rw [List.getElem?_map] at hv hd
  cases ha : as[i]? with
  | none => rw [ha] at hv; cases hv
  | some a =>
    cases hm : ms[i]? with
    | none => rw [hm] at hd; cases hd
    | some m =>
      rw [ha] at hv
      rw [hm] at hd
      cases hv
      cases hd
      exact dp_byV (h.2 i a m ha hm)
theorem dp_rows {α : Type} {f : α → PyData} {a : Addr} {r : Nat → Addr} {x : Vbxlac.Link → α} (hl : l.length = n) (h : H a = some (.lst ((List.range (n + 1)).map fun j => .ref (r j)))) (hj : ∀ j, j ≤ n → Dp K H (.ref (r j)) (f (x (plc l j)))) :
    Dp K H (.ref a) (.list ((x Vbxlac.emptyLink :: l.map x).map f)) := .lst (sq_of h) (by
  have e := plc_range hl x
  rw [← e, List.map_map]
  refine dpAll_of _ _ (by simp) fun i v d hv hd => ?_
  obtain ⟨hi, rfl⟩ := at_range hv
  obtain ⟨_, rfl⟩ := at_range hd
  exact hj i (by omega))
theorem dp_sentL (h : CopyAt A H n g l) : Dp K H (.ref (g.ad .sentL)) (.list (([] :: l.map (·.sent)).map dMsgs)) := dp_rows (f := dMsgs) (x := (·.sent)) h.len (h.here .sentL trivial) fun j hj => .lst (sq_of (h.here (.sent j) hj)) (dp_pays (h.pay (.sent j) hj))
theorem dp_recL (h : CopyAt A H n g l) : Dp K H (.ref (g.ad .recL)) (.list (([] :: l.map (·.received)).map dMsgs)) := dp_rows (f := dMsgs) (x := (·.received)) h.len (h.here .recL trivial) fun j hj => .lst (sq_of (h.here (.recv j) hj)) (dp_pays (h.pay (.recv j) hj))
theorem dp_ackL (h : CopyAt A H n g l) : Dp K H (.ref (g.ad .ackL)) (.list ((0 :: l.map (·.acknowledged)).map dInt)) := .lst (sq_of (h.here .ackL trivial)) (by
  have e := plc_range h.len (·.acknowledged)
  have e2 : (0 :: l.map (·.acknowledged)) = (List.range (n + 1)).map fun j => (plc l j).acknowledged := e.symm
  rw [e2, List.map_map]
  refine dpAll_of _ _ (by simp) fun i v d hv hd => ?_
  obtain ⟨hi, rfl⟩ := at_range hv
  obtain ⟨_, rfl⟩ := at_range hd
  exact .int _)
theorem eqv_rows {α : Type} [DecidableEq α] {f : α → PyData} (h : ∀ x y, PyData.eqv (f x) (f y) = decide (x = y)) (a : α) (xs ys : List α) : PyData.eqv (.list ((a :: xs).map f)) (.list ((a :: ys).map f)) = decide (xs = ys) := by
  rw [PyData.eqv, eqv_map f h]
  exact decide_eq_decide.mpr (by simp)
theorem rv_neSent (h : CopyAt A H n g l) (h' : CopyAt A H n g' l') : RV (rNeD K) (.ref (g.ad .sentL)) (.ref (g'.ad .sentL)) H (.bl (!decide (l.map (·.sent) = l'.map (·.sent)))) := fun H1 e Q k => by
  refine ⟨_, _, dp_sentL (h.ex e), dp_sentL (h'.ex e), shaped_map dMsgs lay_dMsgs depth_dMsgs (by decide) _, shaped_map dMsgs lay_dMsgs depth_dMsgs (by decide) _, ?_⟩
  rw [eqv_rows eqv_dMsgs]
  exact k H1 (Ex.refl H1)
theorem rv_neRec (h : CopyAt A H n g l) (h' : CopyAt A H n g' l') : RV (rNeD K) (.ref (g.ad .recL)) (.ref (g'.ad .recL)) H (.bl (!decide (l.map (·.received) = l'.map (·.received)))) := fun H1 e Q k => by
  refine ⟨_, _, dp_recL (h.ex e), dp_recL (h'.ex e), shaped_map dMsgs lay_dMsgs depth_dMsgs (by decide) _, shaped_map dMsgs lay_dMsgs depth_dMsgs (by decide) _, ?_⟩
  rw [eqv_rows eqv_dMsgs]
  exact k H1 (Ex.refl H1)
theorem rv_eqAck (h : CopyAt A H n g l) (h' : CopyAt A H n g' l') : RV (rEqD K) (.ref (g.ad .ackL)) (.ref (g'.ad .ackL)) H (.bl (decide (l.map (·.acknowledged) = l'.map (·.acknowledged)))) := fun H1 e Q k => by
  refine ⟨_, _, dp_ackL (h.ex e), dp_ackL (h'.ex e), shaped_map dInt lay_dInt depth_dInt (by decide) _, shaped_map dInt lay_dInt depth_dInt (by decide) _, ?_⟩
  rw [eqv_rows eqv_dInt]
  exact k H1 (Ex.refl H1)
end
theorem links_eq : ∀ (l l' : List Vbxlac.Link), (l.map (·.sent) = l'.map (·.sent) ∧ l.map (·.received) = l'.map (·.received) ∧ l.map (·.acknowledged) = l'.map (·.acknowledged)) ↔ l = l'
  | [], [] => by simp
  | [], _ :: _ => by simp
  | _ :: _, [] => by simp
  | ⟨a, b, c⟩ :: l, ⟨a', b', c'⟩ :: l' => by
    have ih := links_eq l l'
    simp only [List.map_cons, List.cons.injEq, Vbxlac.Link.mk.injEq]
    constructor
    · rintro ⟨⟨h1, h2⟩, ⟨h3, h4⟩, h5, h6⟩
      exact ⟨⟨h1, h5, h3⟩, ih.mp ⟨h2, h4, h6⟩⟩
    · rintro ⟨⟨h1, h5, h3⟩, h⟩
      obtain ⟨h2, h4, h6⟩ := ih.mpr h
      exact ⟨⟨h1, h2⟩, ⟨h3, h4⟩, h5, h6⟩
def sp_SiteCopy_equals (K : PySem.W.Frag) (A : Ads) : Sp := fun vs H Q _ => ∃ (n : Nat) (g g' : CG) (l l' : List Vbxlac.Link), vs = [.ref (g.ad .self), .ref (g'.ad .self)] ∧ CopyAt A H n g l ∧ CopyAt A H n g' l' ∧ ∀ H2, Ex H H2 → Q (.bl (decide (l = l'))) H2
theorem len_SiteCopy_equals : ∀ vs H Q E, sp_SiteCopy_equals K A vs H Q E → vs.length = (["self", "other"] : List Str).length := by
  rintro vs H Q E ⟨n, g, g', l, l', rfl, _⟩
  rfl
def t_SiteCopy_equals (K : PySem.W.Frag) (A : Ads) : TS :=
 tSeq (tIfS (tOr (tTest (tOp (rNeD K) (tFld K (tVar 0) "sent") (tFld K (tVar 1) "sent"))) (tTest (tOp (rNeD K) (tFld K (tVar 0) "received") (tFld K (tVar 1) "received"))))
 (tRet (tC (.bl false)))
 (tNext))
 (tRet (tOp (rEqD K) (tFld K (tVar 0) "acknowledged") (tFld K (tVar 1) "acknowledged")))
theorem pure_SiteCopy_equals (T : Txt K mg A) (vs : List V) (H : Hp) (Q : VK) (E : XK) (h : sp_SiteCopy_equals K A vs H Q E) : t_SiteCopy_equals K A { nx := fun _ H' => Q .non H', rt := Q } (start ["self", "other"] vs) H := by
  obtain ⟨n, g, g', l, l', rfl, hc, hc', k⟩ := h
  have le := links_eq l l'
  refine q_when (b := !decide (l.map (·.sent) = l'.map (·.sent)) || !decide (l.map (·.received) = l'.map (·.received))) ?_ (fun hb H1 e1 => ?_) (fun hb H1 e1 => ?_)
  · exact et_or (et_test (ev_op (ev_sent T hc (ev_var rfl)) (ev_sent T hc' (ev_var rfl)) (rv_neSent hc hc'))) fun _ => et_test (ev_op (ev_received T hc (ev_var rfl)) (ev_received T hc' (ev_var rfl)) (rv_neRec hc hc'))
  · refine s_ret ev_c fun H2 e2 => ?_
    have : decide (l = l') = false := decide_eq_false fun z => by
      obtain ⟨z1, z2, _⟩ := le.mpr z
      rw [decide_eq_true z1, decide_eq_true z2] at hb
      cases hb
    rw [← this]
    exact k H2 (e1.trans e2)
  · have hc1 := hc.ex e1
    have hc1' := hc'.ex e1
    refine s_ret (ev_op (ev_acknowledged T hc1 (ev_var rfl)) (ev_acknowledged T hc1' (ev_var rfl)) (rv_eqAck hc1 hc1')) fun H2 e2 => ?_
    have hb' : l.map (·.sent) = l'.map (·.sent) ∧ l.map (·.received) = l'.map (·.received) := by simpa using hb
    have : decide (l.map (·.acknowledged) = l'.map (·.acknowledged)) = decide (l = l') := decide_eq_decide.mpr ⟨fun z => le.mp ⟨hb'.1, hb'.2, z⟩, fun z => (le.mpr z).2.2⟩
    rw [this]
    exact k H2 (e1.trans e2)
theorem sv_equals {H : Hp} {n : Nat} {g g' : CG} {l l' : List Vbxlac.Link} (hc : CopyAt A H n g l) (hc' : CopyAt A H n g' l') : SpV (sp_SiteCopy_equals K A) [.ref (g.ad .self), .ref (g'.ad .self)] H (.bl (decide (l = l'))) :=
  fun H1 e Q q E => ⟨n, g, g', l, l', rfl, hc.ex e, hc'.ex e, q⟩
/-! ## The pairs of sites -/
def tupP (p : Nat × Nat) : HO := .tup [.int (p.1 : Int), .int (p.2 : Int)]
structure PairsAt (H : Hp) (F : Addr) (ts : List Addr) (ps : List (Nat × Nat)) (H' : Hp) : Prop where
  nF : H F = none
  nT : ∀ t ∈ ts, H t = none
  ex : Ex H H'
  len : ts.length = ps.length
  lst : H' F = some (.lst (ts.map .ref))
  tup : ∀ (i : Nat) t p, ts[i]? = some t → ps[i]? = some p → H' t = some (tupP p)
theorem PairsAt.go {H H' H1 : Hp} {F : Addr} {ts : List Addr} {ps : List (Nat × Nat)} (h : PairsAt H F ts ps H') (e : Ex H' H1) : PairsAt H F ts ps H1 :=
  ⟨h.nF, h.nT, h.ex.trans e, h.len, e _ _ h.lst, fun i t p ht hp => e _ _ (h.tup i t p ht hp)⟩
theorem PairsAt.snoc {H H' H1 : Hp} {F t : Addr} {ts : List Addr} {ps : List (Nat × Nat)} {p : Nat × Nat} (h : PairsAt H F ts ps H') (e : Ex H' H1) (nt : H' t = none) (ht : H1 t = some (tupP p)) :
    PairsAt H F (ts ++ [t]) (ps ++ [p]) (upd H1 F (.lst (ts.map .ref ++ [.ref t]))) := by
  have tF : t ≠ F := fun z => by rw [z, h.lst] at nt; cases nt
  refine ⟨h.nF, fun x hx => ?_, Ex.mut (h.ex.trans e) h.nF, by simp [h.len], by rw [upd_same, List.map_append] <;> rfl, fun i x q hx hq => ?_⟩
  · rcases List.mem_append.mp hx with hx | hx
    · exact h.nT x hx
    · rw [List.mem_singleton.mp hx]
      exact fresh_back h.ex nt
  · by_cases hi : i < ts.length
    · rw [List.getElem?_append_left hi] at hx
      rw [List.getElem?_append_left (by rw [← h.len]; exact hi)] at hq
      have hx' := h.tup i x q hx hq
      rw [upd_ne (fun z => by rw [z, h.lst] at hx'; cases hx')]
      exact e _ _ hx'
    · rw [List.getElem?_append_right (by omega)] at hx
      rw [List.getElem?_append_right (by rw [← h.len]; omega), ← h.len] at hq
      have hz : i - ts.length = 0 := by
        have := (List.getElem?_eq_some_iff.mp hx).1
        simp at this
        exact this
      rw [hz] at hx hq
      cases hx
      cases hq
      rw [upd_ne tF]
      exact ht
def pairsIn (a j : Nat) : List (Nat × Nat) := (((List.range j).map fun (i : Nat) => i + 1).filter fun b => b != a).map fun b => (a, b)
def pairsTo (n i : Nat) : List (Nat × Nat) := ((List.range i).map fun (i : Nat) => i + 1).flatMap fun a => pairsIn a n
theorem sitePairs_to (s : Vbxlac.State) : Vbxlac.sitePairs s = pairsTo s.sites.length s.sites.length := rfl
theorem pairsTo_succ (n i : Nat) : pairsTo n (i + 1) = pairsTo n i ++ pairsIn (i + 1) n := by
  unfold pairsTo
  rw [List.range_succ]
  simp
theorem pairsIn_ne {a j : Nat} (h : j + 1 ≠ a) : pairsIn a (j + 1) = pairsIn a j ++ [(a, j + 1)] := by
  unfold pairsIn
  rw [List.range_succ, List.map_append, List.filter_append, List.map_append]
  simp [h]
theorem pairsIn_eq {a j : Nat} (h : j + 1 = a) : pairsIn a (j + 1) = pairsIn a j := by
  unfold pairsIn
  rw [List.range_succ, List.map_append, List.filter_append, List.map_append]
  simp [h]
theorem pairsIn_len (a : Nat) : ∀ j, (pairsIn a j).length ≤ j := fun j => by
  unfold pairsIn
  rw [List.length_map]
  refine Nat.le_trans (List.length_filter_le _ _) ?_
  simp
theorem pairsTo_len (n : Nat) : ∀ i, (pairsTo n i).length ≤ n * i
  | 0 => Nat.le_refl _
  | i + 1 => by
    rw [pairsTo_succ, List.length_append, Nat.mul_succ]
    have := pairsTo_len n i
    have := pairsIn_len (i + 1) n
    omega
def sp_Network_pairs (K : PySem.W.Frag) (A : Ads) : Sp := fun vs H Q _ => ∃ (G : NG) (s : Vbxlac.State), vs = [.ref (G.ad .net)] ∧ NetAt A H G s ∧ s.sites.length ≤ 4 ∧ ∀ F ts H2, PairsAt H F ts (Vbxlac.sitePairs s) H2 → Q (.ref F) H2
theorem len_Network_pairs : ∀ vs H Q E, sp_Network_pairs K A vs H Q E → vs.length = (["self"] : List Str).length := by
  rintro vs H Q E ⟨G, s, rfl, _⟩
  rfl
def t_Network_pairs (K : PySem.W.Frag) (A : Ads) : TS :=
 tSeq (tAsg (tLst (tNil)) (gName 1))
 (tSeq (tFor (iRng2 (tCons (tC (.int 1)) (tCons (tOp rPlus (tCB (rLenS K) (tCons (tFld K (tVar 0) "sites") (tNil))) (tC (.int 1))) (tNil)))) (gName 2)
 (tFor (iRng2 (tCons (tC (.int 1)) (tCons (tOp rPlus (tCB (rLenS K) (tCons (tFld K (tVar 0) "sites") (tNil))) (tC (.int 1))) (tNil)))) (gName 3)
 (tIfS (tTest (tOp (rNe) (tVar 2) (tVar 3)))
 (tDrop (tBM K "list" rAppend (tVar 1) (tCons (tTup (tCons (tVar 2) (tCons (tVar 3) (tNil)))) (tNil))))
 (tNext))))
 (tRet (tVar 1)))
theorem pure_Network_pairs (T : Txt K mg A) (vs : List V) (H : Hp) (Q : VK) (E : XK) (h : sp_Network_pairs K A vs H Q E) : t_Network_pairs K A { nx := fun _ H' => Q .non H', rt := Q } (start ["self", "found", "one", "other"] vs) H := by
  obtain ⟨G, s, rfl, hN, h4, k⟩ := h
  refine q_asgL (el_lst ea_nil (by decide)) fun F H1 nF e1 h1 => ?_
  have ends : ∀ {H' : Hp} {σ : L2.St}, Ex H H' → σ[0]? = some (some (.ref (G.ad .net))) → EvA (tCons (tC (.int 1)) (tCons (tOp rPlus (tCB (rLenS K) (tCons (tFld K (tVar 0) "sites") tNil)) (tC (.int 1))) tNil)) σ H' [.int 1, .int ((s.sites.length : Int) + 1)] := fun {H' σ} e h0 =>
    ea_cons ev_c (ea_cons (ev_is (ev_op (ev_len (ev_sites T (hN.ex e) (ev_var h0)) (sq_sites (hN.ex e))) ev_c rv_I0) (by rw [List.length_map, List.length_range])) ea_nil)
  have few : ∀ i, i ≤ s.sites.length → (pairsTo s.sites.length i).length ≤ 16 := fun i hi => Nat.le_trans (pairsTo_len _ _) (Nat.mul_le_mul h4 (Nat.le_trans hi h4))
  refine q_forR2 (ends e1 rfl) (by omega) (fun i σ' H' => i ≤ s.sites.length ∧ ∃ ts x y, PairsAt H F ts (pairsTo s.sites.length i) H' ∧ σ' = [some (.ref (G.ad .net)), some (.ref F), x, y])
    (fun H2 e2 => ⟨Nat.zero_le _, [], none, none, ⟨nF, (fun t ht => by cases ht), e1.trans e2, rfl, e2 _ _ h1, (fun i t p ht _ => by simp at ht)⟩, rfl⟩) (fun i σ' H' hi ⟨hle, ts, x, y, hp, eσ⟩ => ?_) (fun σ' H' ⟨hle, ts, x, y, hp, eσ⟩ => ?_)
  · subst eσ
    have hi' : i < s.sites.length := by omega
    refine s_forR2 (ends hp.ex rfl) (by omega) (fun j σ2 H2 => j ≤ s.sites.length ∧ ∃ ts y, PairsAt H F ts (pairsTo s.sites.length i ++ pairsIn (i + 1) j) H2 ∧ σ2 = [some (.ref (G.ad .net)), some (.ref F), some (.int (1 + (i : Int))), y])
      (fun H2 e2 => ⟨Nat.zero_le _, ts, y, by rw [show pairsIn (i + 1) 0 = [] from rfl, List.append_nil]; exact hp.go e2, rfl⟩) (fun j σ2 H2 hj ⟨hjl, ts2, y2, hp2, eσ2⟩ => ?_) (fun σ2 H2 ⟨hjl, ts2, y2, hp2, eσ2⟩ => ?_)
    · subst eσ2
      have hj' : j < s.sites.length := by omega
      have lz : (ts2.map V.ref).length < 100000 := by
        have h1 := few i hle
        have h2 := pairsIn_len (i + 1) j
        rw [List.length_map, hp2.len, List.length_append]
        omega
      refine s_when (b := !decide (V.int (1 + (i : Int)) = V.int (1 + (j : Int)))) (et_test (ev_op (ev_var rfl) (ev_var rfl) (rv_ne rfl))) (fun hb H3 e3 => ?_) (fun hb H3 e3 => ?_)
      · have hne : j + 1 ≠ i + 1 := by
          rw [dec_vint] at hb
          simp at hb
          omega
        have hp3 := hp2.go e3
        refine s_appU (ys := [.int ((i + 1 : Nat) : Int), .int ((j + 1 : Nat) : Int)]) hp3.lst (ev_var rfl) (eu_tup (ea_cons (ev_is (ev_var rfl) (by congr 1; omega)) (ea_cons (ev_is (ev_var rfl) (by congr 1; omega)) ea_nil)) (by show 2 ≤ 100000; decide)) lz fun t H4 nt e4 ht => ?_
        refine ⟨hj', ts2 ++ [t], _, ?_, rfl⟩
        rw [pairsIn_ne hne, ← List.append_assoc]
        exact hp3.snoc e4 nt ht
      · have heq : j + 1 = i + 1 := by
          rw [dec_vint] at hb
          simp at hb
          omega
        refine ⟨hj', ts2, _, ?_, rfl⟩
        rw [pairsIn_eq heq]
        exact hp2.go e3
    · subst eσ2
      refine ⟨hi', ts2, _, _, ?_, rfl⟩
      rw [pairsTo_succ]
      have : ((s.sites.length : Int) + 1 - 1).toNat = s.sites.length := by omega
      rw [this] at hp2
      exact hp2
  · subst eσ
    have : ((s.sites.length : Int) + 1 - 1).toNat = s.sites.length := by omega
    rw [this] at hp
    exact s_ret (ev_var rfl) fun H2 e2 => k F ts H2 (hp.go e2)
/-! ## is_settled, totals -/
theorem sites_range (s : Vbxlac.State) : s.sites = (List.range s.sites.length).map fun i => Vbxlac.siteAt s (i + 1) := by
  apply List.ext_getElem?
  intro i
  by_cases hi : i < s.sites.length
  · rw [range_at hi, List.getElem?_eq_getElem hi]
    unfold Vbxlac.siteAt
    show some _ = some ((s.sites[i]?).getD _)
    rw [List.getElem?_eq_getElem hi] <;> rfl
  · rw [List.getElem?_eq_none (by omega), List.getElem?_eq_none (by simp; omega)]
def sp_all_durable (K : PySem.W.Frag) (A : Ads) : Sp := fun vs H Q _ => ∃ (G : NG) (s : Vbxlac.State), vs = [.ref (G.ad .net)] ∧ NetAt A H G s ∧ Sites s ∧ ∀ H2, Ex H H2 → Q (.bl (s.sites.all fun site => site.present == site.durable)) H2
theorem len_all_durable : ∀ vs H Q E, sp_all_durable K A vs H Q E → vs.length = (["network"] : List Str).length := by
  rintro vs H Q E ⟨G, s, rfl, _⟩
  rfl
def t_all_durable (K : PySem.W.Frag) (A : Ads) : TS :=
 tRet (tCB (rAll K) (tCons (tLc (iList K (tFld K (tVar 0) "sites")) (gName 1) (tYes) (tMeth A.c_SiteCopy "equals" (sp_SiteCopy_equals K A) [] E0 (tFld K (tVar 1) "present") (tCons (tFld K (tVar 1) "durable") (tNil))) [1]) (tNil)))
theorem pure_all_durable (T : Txt K mg A) (vs : List V) (H : Hp) (Q : VK) (E : XK) (h : sp_all_durable K A vs H Q E) : t_all_durable K A { nx := fun _ H' => Q .non H', rt := Q } (start ["network", "site"] vs) H := by
  obtain ⟨G, s, rfl, hN, hS, k⟩ := h
  have h4 := hS.few
  have e : (s.sites.all fun site => site.present == site.durable) = ((List.range s.sites.length).map fun i => decide (linksOf s i false = linksOf s i true)).all id := by
    rw [congrArg (fun l => List.all l fun site : Vbxlac.Site => site.present == site.durable) (sites_range s)]
    rw [List.all_map, List.all_map]
    congr 1
    funext i
    show ((Vbxlac.siteAt s (i + 1)).present == (Vbxlac.siteAt s (i + 1)).durable) = decide ((Vbxlac.siteAt s (i + 1)).present = (Vbxlac.siteAt s (i + 1)).durable)
    by_cases z : (Vbxlac.siteAt s (i + 1)).present = (Vbxlac.siteAt s (i + 1)).durable <;> simp [z]
  rw [e] at k
  refine s_ret (v := .bl _) ?_ k
  refine ev_allN (el_map (ev_sites T hN (ev_var rfl)) (sq_sites hN) (by simp; omega) (fun _ => rfl) (by simp) fun i x y H1 e1 hx hy => ?_)
  obtain ⟨hi, rfl⟩ := at_range hx
  rw [List.map_map] at hy
  obtain ⟨_, rfl⟩ := at_range hy
  have hN1 := hN.ex e1
  have cp := hN1.copy hS.links (k := false) hi
  have cd := hN1.copy hS.links (k := true) hi
  exact ev_meth1 (ev_present T hN1 hi (ev_var rfl)) (cp.here .self trivial) fl_SiteCopy_m_equals (ev_durable T hN1 hi (ev_var rfl)) (sv_equals cp cd)
theorem sv_all_durable {G : NG} {s : Vbxlac.State} {H : Hp} (hN : NetAt A H G s) (hS : Sites s) : SpV (sp_all_durable K A) [.ref (G.ad .net)] H (.bl (s.sites.all fun site => site.present == site.durable)) := fun H1 e Q q E => ⟨G, s, rfl, hN.ex e, hS, q⟩
def arrived (s : Vbxlac.State) (p : Nat × Nat) : Bool := (lp s p.2 p.1).received == (lp s p.1 p.2).sent && (lp s p.1 p.2).acknowledged == (lp s p.1 p.2).sent.length
theorem arrived_iff {s : Vbxlac.State} (h : Sites s) (p : Nat × Nat) : arrived s p = true ↔ (lp s p.2 p.1).received.length = (lp s p.1 p.2).sent.length ∧ (lp s p.1 p.2).acknowledged = (lp s p.1 p.2).sent.length := by
  unfold arrived
  rw [Bool.and_eq_true, beq_iff_eq, beq_iff_eq]
  constructor
  · rintro ⟨h1, h2⟩
    exact ⟨by rw [h1], h2⟩
  · rintro ⟨h1, h2⟩
    exact ⟨((h.rcvP p.2 p.1).trans (h.up p.1 p.2).sentP).eq_of_length h1, h2⟩
def sp_all_arrived (K : PySem.W.Frag) (A : Ads) : Sp := fun vs H Q _ => ∃ (G : NG) (s : Vbxlac.State), vs = [.ref (G.ad .net)] ∧ NetAt A H G s ∧ Sites s ∧ ∀ H2, Ex H H2 → Q (.bl ((Vbxlac.sitePairs s).all (arrived s))) H2
theorem len_all_arrived : ∀ vs H Q E, sp_all_arrived K A vs H Q E → vs.length = (["network"] : List Str).length := by
  rintro vs H Q E ⟨G, s, rfl, _⟩
  rfl
def t_all_arrived (K : PySem.W.Frag) (A : Ads) : TS :=
 tSeq (tFor (iList K (tMeth A.c_Network "pairs" (sp_Network_pairs K A) [] E0 (tVar 0) tNil)) (gTup K 2 (gCons (gName 1) (gCons (gName 2) (gNil))))
 (tSeq (tAsg (tFld K (tMeth A.c_Network "site" (sp_Network_site K A) [] E0 (tVar 0) (tCons (tVar 1) (tNil))) "present") (gName 3))
 (tSeq (tAsg (tCB (rLenS K) (tCons (tOp (rIxL K) (tFld K (tVar 3) "sent") (tVar 2)) (tNil))) (gName 4))
 (tIfS (tOr (tTest (tOp (rNe) (tCB (rLenS K) (tCons (tOp (rIxL K) (tFld K (tFld K (tMeth A.c_Network "site" (sp_Network_site K A) [] E0 (tVar 0) (tCons (tVar 2) (tNil))) "present") "received") (tVar 1)) (tNil))) (tVar 4))) (tTest (tOp (rNe) (tOp (rIxL K) (tFld K (tVar 3) "acknowledged") (tVar 2)) (tVar 4))))
 (tRet (tC (.bl false)))
 (tNext)))))
 (tRet (tC (.bl true)))
theorem PairsAt.items {H F ts ps H'} (h : PairsAt H F ts ps H') {i : Nat} {v : V} (hv : (ts.map V.ref)[i]? = some v) : ∃ t p, ts[i]? = some t ∧ ps[i]? = some p ∧ v = .ref t ∧ t ∈ ts := by
  rw [List.getElem?_map] at hv
  cases ht : ts[i]? with
  | none => rw [ht] at hv; cases hv
  | some t =>
    rw [ht] at hv
    have hi : i < ps.length := by rw [← h.len]; exact (List.getElem?_eq_some_iff.mp ht).1
    exact ⟨t, _, rfl, List.getElem?_eq_getElem hi, (Option.some.inj hv).symm, List.mem_of_getElem? ht⟩
theorem pure_all_arrived (T : Txt K mg A) (vs : List V) (H : Hp) (Q : VK) (E : XK) (h : sp_all_arrived K A vs H Q E) : t_all_arrived K A { nx := fun _ H' => Q .non H', rt := Q } (start ["network", "sender", "receiver", "present", "count"] vs) H := by
  obtain ⟨G, s, rfl, hN, hS, k⟩ := h
  refine ⟨_, rfl, G.ad .net, _, _, rfl, hN.here .net trivial, fl_Network_m_pairs, G, s, rfl, hN, hS.few, fun F ts H1 hp => ⟨F, rfl, ⟨_, sq_of hp.lst⟩, ?_⟩⟩
  refine for_list (fun i σ' H' => Ex H1 H' ∧ (∀ (j : Nat) p, j < i → (Vbxlac.sitePairs s)[j]? = some p → arrived s p = true) ∧ ∃ x y u w, σ' = [some (.ref (G.ad .net)), x, y, u, w])
    ⟨Ex.refl H1, fun j p hj => absurd hj (Nat.not_lt_zero _), none, none, none, none, rfl⟩ (fun i σ' H' _ ⟨e, _⟩ => sq_of (hp.go e).lst) ?_ ?_
  · rintro i v σ' H' hi ⟨e, hall, x, y, u, w, rfl⟩
    obtain ⟨t, p, ht, hpi, rfl, htm⟩ := hp.items hi
    obtain ⟨a, b⟩ := p
    have htup := (hp.go e).tup i t _ ht hpi
    refine ⟨t, _, rfl, st_of htup, rfl, _, _, rfl, _, _, rfl, rfl, ?_⟩
    obtain ⟨a1, a2, b1, b2, ab⟩ := sitePairs_mem (List.mem_of_getElem? hpi)
    simp only at a1 a2 b1 b2 ab
    have hN' := hN.ex (hp.ex.trans e)
    have hi : a - 1 < s.sites.length := by omega
    have hj : b - 1 < s.sites.length := by omega
    have sel : ∀ {H' : Hp} {te : TE} {σ : L2.St} {i : Nat}, Ev te σ H' (.ref (G.ad (.cp i false .self))) → Ev te σ H' (.ref ((G.cg i false).ad .self)) := fun h => h
    refine q_asg (v := .ref (G.ad (.cp (a - 1) false .self))) (ev_present T hN' hi (ev_site T hN' a1 a2 (ev_var rfl) (ev_var rfl))) fun H2 e2 => ?_
    have hN2 := hN'.ex e2
    have cp2 := hN2.copy hS.links (k := false) hi
    have el := plc_present s (x := a) (o := b) a1 b1
    have el' := plc_present s (x := b) (o := a) b1 a1
    refine q_asg (v := .int ((lp s a b).sent.length : Int)) (ev_is (ev_len (ev_sentAt T cp2 b2 (sel (ev_var rfl)) (ev_var rfl)) (sq_sent cp2 b2)) (by rw [List.length_map, len_sent cp2 b2, el])) fun H3 e3 => ?_
    have hN3 := hN2.ex e3
    have cp3 := cp2.ex e3
    have cq3 := hN3.copy hS.links (k := false) hj
    refine s_when (b := !decide (V.int ((lp s b a).received.length : Int) = V.int ((lp s a b).sent.length : Int)) || !decide (V.int ((lp s a b).acknowledged : Int) = V.int ((lp s a b).sent.length : Int))) ?_ (fun hb H4 e4 => ?_) (fun hb H4 e4 => ?_)
    · refine et_or (et_test (ev_op (ev_is (ev_len (ev_recAt T cq3 a2 (sel (ev_present T hN3 hj (ev_site T hN3 b1 b2 (ev_var rfl) (ev_var rfl)))) (ev_var rfl)) (sq_recv cq3 a2)) (by rw [List.length_map, len_recv cq3 a2, el'])) (ev_var rfl) (rv_ne rfl))) fun _ => et_test (ev_op (ev_is (ev_ackAt T cp3 b2 (sel (ev_var rfl)) (ev_var rfl)) (by rw [el])) (ev_var rfl) (rv_ne rfl))
    · refine s_ret ev_c fun H5 e5 => ?_
      have : (Vbxlac.sitePairs s).all (arrived s) = false := by
        rw [List.all_eq_false]
        refine ⟨(a, b), List.mem_of_getElem? hpi, fun z => ?_⟩
        obtain ⟨z1, z2⟩ := (arrived_iff hS (a, b)).mp z
        simp only at z1 z2
        rw [z1, z2] at hb
        simp at hb
      rw [← this]
      exact k H5 (hp.ex.trans (e.trans (e2.trans (e3.trans (e4.trans e5)))))
    · refine ⟨e.trans (e2.trans (e3.trans e4)), fun j p hj hpj => ?_, _, _, _, _, rfl⟩
      by_cases z : j = i
      · subst z
        rw [hpi] at hpj
        cases hpj
        rw [dec_vint, dec_vint] at hb
        simp at hb
        exact (arrived_iff hS (a, b)).mpr ⟨by simp only; omega, by simp only; omega⟩
      · exact hall j p (by omega) hpj
  · rintro σ' H' ⟨e, hall, x, y, u, w, rfl⟩
    show tRet (tC (.bl true)) { nx := fun _ H' => Q .non H', rt := Q } [some (.ref (G.ad .net)), x, y, u, w] H'
    refine s_ret ev_c fun H2 e2 => ?_
    have : (Vbxlac.sitePairs s).all (arrived s) = true := by
      rw [List.all_eq_true]
      intro p hpm
      obtain ⟨j, hj⟩ := List.mem_iff_getElem?.mp hpm
      have hl := (List.getElem?_eq_some_iff.mp hj).1
      exact hall j p (by rw [List.length_map, hp.len]; exact hl) hj
    rw [← this]
    exact k H2 (hp.ex.trans (e.trans e2))
theorem sv_all_arrived {G : NG} {s : Vbxlac.State} {H : Hp} (hN : NetAt A H G s) (hS : Sites s) : SpV (sp_all_arrived K A) [.ref (G.ad .net)] H (.bl ((Vbxlac.sitePairs s).all (arrived s))) := fun H1 e Q q E => ⟨G, s, rfl, hN.ex e, hS, q⟩
theorem ev_refusal0 (T : Txt K mg A) {σ : L2.St} {H : Hp} {G : NG} {s : Vbxlac.State} (hN : NetAt A H G s) (h0 : σ[0]? = some (some (.ref (G.ad .net)))) :
    Ev (tCall (sp_sites_refusal K A) [] E0 (tCons (tVar 0) (tCons (tLst tNil) (tCons (tC (.bl true)) (tNil))))) σ H (.int (siteCode s [] true)) :=
  ev_callL (ev_var h0) (el_lst ea_nil (by decide)) (fun H1 e1 => ev_c) (fun p H1 e1 h1 => sv_sites_refusal (ns := []) (hN.ex e1) (sq_of h1) (by decide))
theorem site_code0 {s : Vbxlac.State} (f : Unit → Vbxlac.Result) : Vbxlac.withSites s true [] f = if siteCode s [] true = 0 then f () else .error (siteCode s [] true) := withSites_code s true [] f true (by simp)
def sp_is_settled (K : PySem.W.Frag) (A : Ads) : Sp := SpC A [] .isSettled
theorem len_is_settled : ∀ vs H Q E, sp_is_settled K A vs H Q E → vs.length = (["network"] : List Str).length := by
  rintro vs H Q E ⟨W, G, s, k, rfl, _⟩
  rfl
def t_is_settled (K : PySem.W.Frag) (A : Ads) : TS :=
 tSeq (tAsg (tCall (sp_sites_refusal K A) [] E0 (tCons (tVar 0) (tCons (tLst (tNil)) (tCons (tC (.bl true)) (tNil))))) (gName 1))
 (tSeq (tIfS (tTest (tOp (rNe) (tVar 1) (tC (.int 0))))
 (tRet (tLst (tCons (tVar 1) (tNil))))
 (tNext))
 (tSeq (tIfS (tAnd (tTest (tOp (rEq) (tCB (rLenS K) (tCons (tFld K (tVar 0) "wires") (tNil))) (tC (.int 0)))) (tAnd (tB (tCall (sp_all_durable K A) [] E0 (tCons (tVar 0) (tNil)))) (tB (tCall (sp_all_arrived K A) [] E0 (tCons (tVar 0) (tNil))))))
 (tRet (tLst (tCons (tC (.int 0)) (tCons (tC (.int 1)) (tNil)))))
 (tNext))
 (tRet (tLst (tCons (tC (.int 0)) (tCons (tC (.int 0)) (tNil)))))))
theorem pure_is_settled (T : Txt K mg A) (vs : List V) (H : Hp) (Q : VK) (E : XK) (h : sp_is_settled K A vs H Q E) : t_is_settled K A { nx := fun _ H' => Q .non H', rt := Q } (start ["network", "refusal"] vs) H := by
  obtain ⟨W, G, s, k, rfl, hN, hG, hk, hW, r⟩ := h
  refine q_asg (ev_refusal0 T hN rfl) fun H1 e1 => ?_
  have hN1 := hN.ex e1
  refine q_refuse hN1 rfl (fun hc => RetStep.left (r.of (resOf_error ?_)) e1) fun hc H2 e2 => ?_
  · simp only [Vbxlac.perform, site_code0]
    exact if_neg hc
  have e12 := e1.trans e2
  have hN2 := hN.ex e12
  have hS := hG.sites
  have pf : Vbxlac.perform s .isSettled = .ok (s, [Vbxlac.flag (Vbxlac.isSettled s)]) := by
    simp only [Vbxlac.perform, site_code0]
    exact if_pos hc
  have es : Vbxlac.isSettled s = (decide (V.int (s.wires.length : Int) = V.int 0) && ((s.sites.all fun site => site.present == site.durable) && (Vbxlac.sitePairs s).all (arrived s))) := by
    unfold Vbxlac.isSettled
    congr 1
    rw [dec_vint]
    cases s.wires with
    | nil => rfl
    | cons x r => simp; omega
  refine q_when (b := Vbxlac.isSettled s) ?_ (fun hb H3 e3 => ?_) (fun hb H3 e3 => ?_)
  · rw [es]
    exact et_and (et_test (ev_op (ev_is (ev_len (ev_wires T hN2 (ev_var rfl)) (sq_wires hN2)) (by rw [List.length_map, List.length_range])) ev_c (rv_eq rfl))) fun _ => et_and (et_B (ev_call (ea_cons (ev_var rfl) ea_nil) (sv_all_durable hN2 hS))) fun _ => et_B (ev_call (ea_cons (ev_var rfl) ea_nil) (sv_all_arrived hN2 hS))
  · rw [hb] at pf
    exact ret_step (Step.ofEx hN (e12.trans e3)) (el_lst (ea_cons ev_c (ea_cons ev_c ea_nil)) (by show 2 ≤ 100000; decide)) (r.of (resOf_ok pf))
  · rw [hb] at pf
    exact ret_step (Step.ofEx hN (e12.trans e3)) (el_lst (ea_cons ev_c (ea_cons ev_c ea_nil)) (by show 2 ≤ 100000; decide)) (r.of (resOf_ok pf))
def sp_totals (K : PySem.W.Frag) (A : Ads) : Sp := SpC A [] .totals
theorem len_totals : ∀ vs H Q E, sp_totals K A vs H Q E → vs.length = (["network"] : List Str).length := by
  rintro vs H Q E ⟨W, G, s, k, rfl, _⟩
  rfl
def t_totals (K : PySem.W.Frag) (A : Ads) : TS :=
 tSeq (tAsg (tCall (sp_sites_refusal K A) [] E0 (tCons (tVar 0) (tCons (tLst (tNil)) (tCons (tC (.bl true)) (tNil))))) (gName 1))
 (tSeq (tIfS (tTest (tOp (rNe) (tVar 1) (tC (.int 0))))
 (tRet (tLst (tCons (tVar 1) (tNil))))
 (tNext))
 (tSeq (tAsg (tCB (rSum K) (tCons (tLc (iList K (tFld K (tVar 0) "sites")) (gName 4) (tYes) (tMeth A.c_SiteCopy "sent_count" (sp_SiteCopy_sent_count K A) [] E0 (tFld K (tVar 4) "present") tNil) [4]) (tNil))) (gName 2))
 (tSeq (tAsg (tCB (rSum K) (tCons (tLc (iList K (tFld K (tVar 0) "sites")) (gName 4) (tYes) (tMeth A.c_SiteCopy "received_count" (sp_SiteCopy_received_count K A) [] E0 (tFld K (tVar 4) "present") tNil) [4]) (tNil))) (gName 3))
 (tRet (tLst (tCons (tC (.int 0)) (tCons (tCB (rLenS K) (tCons (tFld K (tVar 0) "sites") (tNil))) (tCons (tCB (rLenS K) (tCons (tFld K (tVar 0) "wires") (tNil))) (tCons (tFld K (tVar 0) "duplicated") (tCons (tVar 2) (tCons (tVar 3) (tNil))))))))))))
theorem sum_castN : ∀ (l : List Nat), (l.map fun (x : Nat) => (x : Int)).sum = ((l.sum : Nat) : Int)
  | [] => rfl
  | x :: l => by
    rw [List.map_cons, List.sum_cons, List.sum_cons, sum_castN l]
    omega
theorem sum_sites (s : Vbxlac.State) (f : List Vbxlac.Link → Nat) : ((List.range s.sites.length).map fun i => ((f (linksOf s i false) : Nat) : Int)).sum = (((s.sites.map fun site => f site.present).sum : Nat) : Int) := by
  rw [congrArg (fun l => ((List.map (fun site : Vbxlac.Site => f site.present) l).sum : Nat)) (sites_range s), ← sum_castN, List.map_map, List.map_map]
  rfl
theorem pure_totals (T : Txt K mg A) (vs : List V) (H : Hp) (Q : VK) (E : XK) (h : sp_totals K A vs H Q E) : t_totals K A { nx := fun _ H' => Q .non H', rt := Q } (start ["network", "refusal", "posted", "arrived", "site"] vs) H := by
  obtain ⟨W, G, s, k, rfl, hN, hG, hk, hW, r⟩ := h
  refine q_asg (ev_refusal0 T hN rfl) fun H1 e1 => ?_
  have hN1 := hN.ex e1
  refine q_refuse hN1 rfl (fun hc => RetStep.left (r.of (resOf_error ?_)) e1) fun hc H2 e2 => ?_
  · simp only [Vbxlac.perform, site_code0]
    exact if_neg hc
  have e12 := e1.trans e2
  have hN2 := hN.ex e12
  have hS := hG.sites
  have h4 := hS.few
  have pf : Vbxlac.perform s .totals = .ok (s, [Vbxlac.toInt s.sites.length, Vbxlac.toInt s.wires.length, Vbxlac.toInt s.duplicated, Vbxlac.toInt (s.sites.map fun site => Vbxlac.sentCount site.present).sum, Vbxlac.toInt (s.sites.map fun site => Vbxlac.receivedCount site.present).sum]) := by
    simp only [Vbxlac.perform, site_code0]
    exact if_pos hc
  refine q_asg (v := .int (((s.sites.map fun site => Vbxlac.sentCount site.present).sum : Nat) : Int)) ?_ fun H3 e3 => ?_
  · rw [← sum_sites s Vbxlac.sentCount]
    refine ev_sumN (el_map (ev_sites T hN2 (ev_var rfl)) (sq_sites hN2) (by simp; omega) (fun _ => rfl) (by simp) fun i x y H1 e1 hx hy => ?_)
    obtain ⟨hi, rfl⟩ := at_range hx
    rw [List.map_map] at hy
    obtain ⟨_, rfl⟩ := at_range hy
    have cp := (hN2.ex e1).copy hS.links (k := false) hi
    exact ev_meth0 (ev_present T (hN2.ex e1) hi (ev_var rfl)) (cp.here .self trivial) fl_SiteCopy_m_sent_count (sv_sent_count cp h4)
  have hN3 := hN2.ex e3
  refine q_asg (v := .int (((s.sites.map fun site => Vbxlac.receivedCount site.present).sum : Nat) : Int)) ?_ fun H4 e4 => ?_
  · rw [← sum_sites s Vbxlac.receivedCount]
    refine ev_sumN (el_map (ev_sites T hN3 (ev_var rfl)) (sq_sites hN3) (by simp; omega) (fun _ => rfl) (by simp) fun i x y H1 e1 hx hy => ?_)
    obtain ⟨hi, rfl⟩ := at_range hx
    rw [List.map_map] at hy
    obtain ⟨_, rfl⟩ := at_range hy
    have cp := (hN3.ex e1).copy hS.links (k := false) hi
    exact ev_meth0 (ev_present T (hN3.ex e1) hi (ev_var rfl)) (cp.here .self trivial) fl_SiteCopy_m_received_count (sv_received_count cp h4)
  have hN4 := hN3.ex e4
  refine ret_step (ans := [0, Vbxlac.toInt s.sites.length, Vbxlac.toInt s.wires.length, Vbxlac.toInt s.duplicated, Vbxlac.toInt (s.sites.map fun site => Vbxlac.sentCount site.present).sum, Vbxlac.toInt (s.sites.map fun site => Vbxlac.receivedCount site.present).sum]) (Step.ofEx hN (e12.trans (e3.trans e4))) (el_lst (ea_cons ev_c (ea_cons (ev_is (ev_len (ev_sites T hN4 (ev_var rfl)) (sq_sites hN4)) (by rw [List.length_map, List.length_range] <;> rfl)) (ea_cons (ev_is (ev_len (ev_wires T hN4 (ev_var rfl)) (sq_wires hN4)) (by rw [List.length_map, List.length_range] <;> rfl)) (ea_cons (ev_duplicated T hN4 (ev_var rfl)) (ea_cons (ev_var rfl) (ea_cons (ev_var rfl) ea_nil)))))) (by show 6 ≤ 100000; decide)) (r.of (resOf_ok pf))
end Sur
namespace Sur
open PySem PySem.Spec PyProof.Rows L2 Evl
variable {P : Program} {w : World} {K : PySem.W.Frag} {mg : Str → Option Value} {base : Heap} {A : Ads} {W : Addr → Prop}
/-! ## The calls that look: received, link_state, unsettled, list_packets, packet_bytes -/
section
variable {σ : L2.St} {H : Hp} {ta tb : TE} {xs ys : List V}
/-- a new list + a list that stands | + a new list -/
theorem el_cat {b : Addr} (ha : EvL ta σ H xs) (hb : ∀ H1, Ex H H1 → Ev tb σ H1 (.ref b)) (h : H b = some (.lst ys)) (hz : xs.length + ys.length ≤ 100000) : EvL (tOp rCat ta tb) σ H (xs ++ ys) := fun H1 e Q q =>
  ha H1 e _ fun l H2 nl e2 hl => hb H2 (e.trans e2) H2 (Ex.refl H2) _ fun H3 e3 =>
    ⟨l, b, xs, ys, rfl, rfl, e3 l _ hl, e3 b _ (e2 b _ (e b _ h)), sz_of hz, fun p np => q p _ (fresh_back (e2.trans e3) np) ((e2.trans e3).trans (Ex.new np)) upd_same⟩
theorem el_catL (ha : EvL ta σ H xs) (hb : ∀ H1, Ex H H1 → EvL tb σ H1 ys) (hz : xs.length + ys.length ≤ 100000) : EvL (tOp rCat ta tb) σ H (xs ++ ys) := fun H1 e Q q =>
  ha H1 e _ fun l H2 nl e2 hl => hb H2 (e.trans e2) H2 (Ex.refl H2) _ fun b H3 nb e3 h =>
    ⟨l, b, xs, ys, rfl, rfl, e3 l _ hl, h, sz_of hz, fun p np => q p _ (fresh_back (e2.trans e3) np) ((e2.trans e3).trans (Ex.new np)) upd_same⟩
end
theorem ansV_bytes (m : List Nat) : ansV (Vbxlac.bytesResult m) = byV m := by
  unfold ansV Vbxlac.bytesResult byV
  rw [List.map_map] <;> rfl
/-! ### packet_bytes -/
def sp_packet_bytes (K : PySem.W.Frag) (A : Ads) : Sp := fun vs H Q E => ∃ i : Int, SpC A [.int i] (.packetBytes i) vs H Q E
theorem len_packet_bytes : ∀ vs H Q E, sp_packet_bytes K A vs H Q E → vs.length = (["network", "index"] : List Str).length := by
  rintro vs H Q E ⟨i, W, G, s, k, rfl, _⟩
  rfl
def t_packet_bytes (K : PySem.W.Frag) (A : Ads) : TS :=
 tSeq (tAsg (tCall (sp_packet_refusal K A) [] E0 (tCons (tVar 0) (tCons (tVar 1) (tCons (tC (.bl true)) (tNil))))) (gName 2))
 (tSeq (tIfS (tTest (tOp (rNe) (tVar 2) (tC (.int 0))))
 (tRet (tLst (tCons (tVar 2) (tNil))))
 (tNext))
 (tRet (tOp rCat (tLst (tCons (tC (.int 0)) (tNil))) (tFld K (tOp (rIxL K) (tFld K (tVar 0) "wires") (tVar 1)) "octets"))))
theorem pure_packet_bytes (T : Txt K mg A) (vs : List V) (H : Hp) (Q : VK) (E : XK) (h : sp_packet_bytes K A vs H Q E) : t_packet_bytes K A { nx := fun _ H' => Q .non H', rt := Q } (start ["network", "index", "refusal"] vs) H := by
  obtain ⟨i, W, G, s, k, rfl, hN, hG, hk, hW, r⟩ := h
  refine q_asg (ev_call (ea_cons (ev_var rfl) (ea_cons (ev_var rfl) (ea_cons ev_c ea_nil))) (sv_packet_refusal hN)) fun H1 e1 => ?_
  have hN1 := hN.ex e1
  refine q_refuse hN1 rfl (fun hc => RetStep.left (r.of (resOf_error ?_)) e1) fun hc H2 e2 => ?_
  · simp only [Vbxlac.perform, withPacket_code]
    exact if_neg hc
  obtain ⟨_, j, rfl, hj⟩ := pkt_facts hc
  have e12 := e1.trans e2
  have hN2 := hN.ex e12
  have pf : Vbxlac.perform s (.packetBytes (j : Int)) = .ok (s, Vbxlac.bytesResult (wireOf s j).bytes) := by
    simp only [Vbxlac.perform, withPacket_code]
    exact if_pos hc
  refine ret_step (ans := 0 :: Vbxlac.bytesResult (wireOf s j).bytes) (Step.ofEx hN e12) ?_ (r.of (resOf_ok pf))
  have := el_cat (ys := byV (wireOf s j).bytes) (el_one (e := 0) (σ := [some (.ref (G.ad .net)), some (.int (j : Int)), some (.int (pktCode s (j : Int) true))]) (H := H2) ev_c) (fun H3 e3 => ev_octets T (hN2.ex e3) hj (ev_wireAt T (hN2.ex e3) hj (ev_var (i := 0) rfl) (ev_var (i := 1) rfl))) (hN2.here (.oct j) hj) (by rw [byV_len]; have := (hG.wire hj).ok.len; show 1 + _ ≤ _; omega)
  rw [← ansV_bytes] at this
  exact this
/-! ### link_state -/
def sp_link_state (K : PySem.W.Frag) (A : Ads) : Sp := fun vs H Q E => ∃ a b c : Int, SpC A [.int a, .int b, .int c] (.linkState a b c) vs H Q E
theorem len_link_state : ∀ vs H Q E, sp_link_state K A vs H Q E → vs.length = (["network", "number", "other", "copy_number"] : List Str).length := by
  rintro vs H Q E ⟨a, b, c, W, G, s, k, rfl, _⟩
  rfl
def t_link_state (K : PySem.W.Frag) (A : Ads) : TS :=
 tSeq (tAsg (tCall (sp_pair_refusal K A) [] E0 (tCons (tVar 0) (tCons (tVar 1) (tCons (tVar 2) (tCons (tCall (sp_is_copy_number K A) [] E0 (tCons (tVar 3) (tNil))) (tNil)))))) (gName 4))
 (tSeq (tIfS (tTest (tOp (rNe) (tVar 4) (tC (.int 0))))
 (tRet (tLst (tCons (tVar 4) (tNil))))
 (tNext))
 (tSeq (tAsg (tFld K (tMeth A.c_Network "site" (sp_Network_site K A) [] E0 (tVar 0) (tCons (tVar 1) (tNil))) "present") (gName 5))
 (tSeq (tIfS (tTest (tOp (rEq) (tVar 3) (tC (.int 1))))
 (tAsg (tFld K (tMeth A.c_Network "site" (sp_Network_site K A) [] E0 (tVar 0) (tCons (tVar 1) (tNil))) "durable") (gName 5))
 (tNext))
 (tRet (tLst (tCons (tC (.int 0)) (tCons (tCB (rLenS K) (tCons (tOp (rIxL K) (tFld K (tVar 5) "sent") (tVar 2)) (tNil))) (tCons (tOp (rIxL K) (tFld K (tVar 5) "acknowledged") (tVar 2)) (tCons (tCB (rLenS K) (tCons (tOp (rIxL K) (tFld K (tVar 5) "received") (tVar 2)) (tNil))) (tNil))))))))))
theorem linksOf_at (s : Vbxlac.State) {x : Nat} (x1 : 1 ≤ x) (k : Bool) : linksOf s (x - 1) k = if k = true then (Vbxlac.siteAt s x).durable else (Vbxlac.siteAt s x).present := by
  unfold linksOf
  rw [show x - 1 + 1 = x by omega]
theorem pure_link_state (T : Txt K mg A) (vs : List V) (H : Hp) (Q : VK) (E : XK) (h : sp_link_state K A vs H Q E) : t_link_state K A { nx := fun _ H' => Q .non H', rt := Q } (start ["network", "number", "other", "copy_number", "refusal", "state"] vs) H := by
  obtain ⟨a, b, c, W, G, s, k, rfl, hN, hG, hk, hW, r⟩ := h
  have hS := hG.sites
  refine q_asg (ev_call (ea_cons (ev_var rfl) (ea_cons (ev_var rfl) (ea_cons (ev_var rfl) (ea_cons (ev_call (ea_cons (ev_var rfl) ea_nil) sv_is_copy_number) ea_nil)))) (sv_pair_refusal hN)) fun H1 e1 => ?_
  have hN1 := hN.ex e1
  refine q_refuse hN1 rfl (fun hc => RetStep.left (r.of (resOf_error ?_)) e1) fun hc H2 e2 => ?_
  · simp only [Vbxlac.perform, withPair_code]
    exact if_neg hc
  obtain ⟨hv, x, y, rfl, rfl, x1, x2, y1, y2, xy⟩ := pair_facts hc
  have hv' : 0 ≤ c ∧ c ≤ 1 := by simpa using hv
  have e12 := e1.trans e2
  have hN2 := hN.ex e12
  have hi : x - 1 < s.sites.length := by omega
  have pf : ∀ kb : Bool, (c = 0 ↔ kb = false) → Vbxlac.perform s (.linkState (x : Int) (y : Int) c) = .ok (s, [((plc (linksOf s (x - 1) kb) y).sent.length : Int), ((plc (linksOf s (x - 1) kb) y).acknowledged : Int), ((plc (linksOf s (x - 1) kb) y).received.length : Int)]) := fun kb hkb => by
    simp only [Vbxlac.perform, withPair_code]
    refine (if_pos hc).trans ?_
    rw [plc_pos y1, linksOf_at s x1]
    cases kb with
    | false => rw [if_pos (hkb.mpr rfl)] <;> rfl
    | true => rw [if_neg (fun z => by have := hkb.mp z; cases this)] <;> rfl
  -- the end, for either copy
  have fin : ∀ (kb : Bool), (c = 0 ↔ kb = false) → ∀ H3, Ex H H3 → ∀ (σ : L2.St), σ[2]? = some (some (.int (y : Int))) → σ[5]? = some (some (.ref ((G.cg (x - 1) kb).ad .self))) →
      tRet (tLst (tCons (tC (.int 0)) (tCons (tCB (rLenS K) (tCons (tOp (rIxL K) (tFld K (tVar 5) "sent") (tVar 2)) (tNil))) (tCons (tOp (rIxL K) (tFld K (tVar 5) "acknowledged") (tVar 2)) (tCons (tCB (rLenS K) (tCons (tOp (rIxL K) (tFld K (tVar 5) "received") (tVar 2)) (tNil))) (tNil))))))
        { nx := fun _ H' => Q .non H', rt := Q } σ H3 := by
    intro kb hkb H3 e3 σ h2 h5
    have cp := (hN.ex e3).copy hS.links (k := kb) hi
    exact ret_step (ans := [0, ((plc (linksOf s (x - 1) kb) y).sent.length : Int), ((plc (linksOf s (x - 1) kb) y).acknowledged : Int), ((plc (linksOf s (x - 1) kb) y).received.length : Int)]) (Step.ofEx hN e3)
      (el_lst (ea_cons ev_c (ea_cons (ev_is (ev_len (ev_sentAt T cp y2 (ev_var h5) (ev_var h2)) (sq_sent cp y2)) (by rw [List.length_map, len_sent cp y2])) (ea_cons (ev_ackAt T cp y2 (ev_var h5) (ev_var h2)) (ea_cons (ev_is (ev_len (ev_recAt T cp y2 (ev_var h5) (ev_var h2)) (sq_recv cp y2)) (by rw [List.length_map, len_recv cp y2])) ea_nil)))) (by show 4 ≤ 100000; decide)) (r.of (resOf_ok (pf kb hkb)))
  refine q_asg (v := .ref (G.ad (.cp (x - 1) false .self))) (ev_present T hN2 hi (ev_site T hN2 x1 x2 (ev_var rfl) (ev_var rfl))) fun H3 e3 => ?_
  have hN3 := hN2.ex e3
  refine q_when (et_test (ev_op (ev_var rfl) ev_c (rv_eq rfl))) (fun hb H4 e4 => ?_) (fun hb H4 e4 => ?_)
  · have hc1 : c = 1 := by have := vint_eq hb; omega
    have hN4 := hN3.ex e4
    refine s_asg (v := .ref (G.ad (.cp (x - 1) true .self))) (ev_durable T hN4 hi (ev_site T hN4 x1 x2 (ev_var rfl) (ev_var rfl))) fun H5 e5 => ?_
    exact fin true (by subst hc1; decide) H5 (e12.trans (e3.trans (e4.trans e5))) _ rfl rfl
  · have hc0 : c = 0 := by have := vint_ne hb; omega
    exact fin false (by subst hc0; decide) H4 (e12.trans (e3.trans e4)) _ rfl rfl
/-! ### unsettled -/
def sp_unsettled (K : PySem.W.Frag) (A : Ads) : Sp := fun vs H Q E => ∃ a b : Int, SpC A [.int a, .int b] (.unsettled a b) vs H Q E
theorem len_unsettled : ∀ vs H Q E, sp_unsettled K A vs H Q E → vs.length = (["network", "sender", "receiver"] : List Str).length := by
  rintro vs H Q E ⟨a, b, W, G, s, k, rfl, _⟩
  rfl
def t_unsettled (K : PySem.W.Frag) (A : Ads) : TS :=
 tSeq (tAsg (tCall (sp_pair_refusal K A) [] E0 (tCons (tVar 0) (tCons (tVar 1) (tCons (tVar 2) (tCons (tC (.bl true)) (tNil)))))) (gName 3))
 (tSeq (tIfS (tTest (tOp (rNe) (tVar 3) (tC (.int 0))))
 (tRet (tLst (tCons (tVar 3) (tNil))))
 (tNext))
 (tSeq (tAsg (tFld K (tMeth A.c_Network "site" (sp_Network_site K A) [] E0 (tVar 0) (tCons (tVar 1) (tNil))) "present") (gName 4))
 (tSeq (tAsg (tOp (rIxL K) (tFld K (tVar 4) "acknowledged") (tVar 2)) (gName 5))
 (tSeq (tAsg (tOp rMinus (tCB (rLenS K) (tCons (tOp (rIxL K) (tFld K (tVar 4) "sent") (tVar 2)) (tNil))) (tVar 5)) (gName 6))
 (tSeq (tIfS (tTest (tOp (rEq) (tVar 6) (tC (.int 0))))
 (tRet (tLst (tCons (tC (.int 0)) (tCons (tC (.int 0)) (tCons (tC (.int 0)) (tNil))))))
 (tNext))
 (tRet (tLst (tCons (tC (.int 0)) (tCons (tVar 6) (tCons (tOp rPlus (tVar 5) (tC (.int 1))) (tNil)))))))))))
theorem pure_unsettled (T : Txt K mg A) (vs : List V) (H : Hp) (Q : VK) (E : XK) (h : sp_unsettled K A vs H Q E) : t_unsettled K A { nx := fun _ H' => Q .non H', rt := Q } (start ["network", "sender", "receiver", "refusal", "present", "acknowledged", "count"] vs) H := by
  obtain ⟨a, b, W, G, s, k, rfl, hN, hG, hk, hW, r⟩ := h
  have hS := hG.sites
  refine q_asg (ev_call (ea_cons (ev_var rfl) (ea_cons (ev_var rfl) (ea_cons (ev_var rfl) (ea_cons ev_c ea_nil)))) (sv_pair_refusal hN)) fun H1 e1 => ?_
  have hN1 := hN.ex e1
  refine q_refuse hN1 rfl (fun hc => RetStep.left (r.of (resOf_error ?_)) e1) fun hc H2 e2 => ?_
  · simp only [Vbxlac.perform, withPair_code]
    exact if_neg hc
  obtain ⟨_, x, y, rfl, rfl, x1, x2, y1, y2, xy⟩ := pair_facts hc
  have e12 := e1.trans e2
  have hN2 := hN.ex e12
  have hi : x - 1 < s.sites.length := by omega
  have el := plc_present s (x := x) (o := y) x1 y1
  have hle : (lp s x y).acknowledged ≤ (lp s x y).sent.length := hS.ackP_le x y
  have pf : Vbxlac.perform s (.unsettled (x : Int) (y : Int)) = .ok (s, [Vbxlac.toInt ((lp s x y).sent.length - (lp s x y).acknowledged), if (lp s x y).acknowledged < (lp s x y).sent.length then Vbxlac.toInt (lp s x y).acknowledged + 1 else 0]) := by
    simp only [Vbxlac.perform, withPair_code]
    exact if_pos hc
  have sel : ∀ {H' : Hp} {te : TE} {σ : L2.St}, Ev te σ H' (.ref (G.ad (.cp (x - 1) false .self))) → Ev te σ H' (.ref ((G.cg (x - 1) false).ad .self)) := fun h => h
  refine q_asg (v := .ref (G.ad (.cp (x - 1) false .self))) (ev_present T hN2 hi (ev_site T hN2 x1 x2 (ev_var rfl) (ev_var rfl))) fun H3 e3 => ?_
  have cp3 := (hN2.ex e3).copy hS.links (k := false) hi
  refine q_asg (v := .int ((lp s x y).acknowledged : Int)) (ev_is (ev_ackAt T cp3 y2 (sel (ev_var rfl)) (ev_var rfl)) (by rw [el])) fun H4 e4 => ?_
  have cp4 := cp3.ex e4
  refine q_asg (v := .int (((lp s x y).sent.length : Int) - ((lp s x y).acknowledged : Int))) (ev_op (ev_is (ev_len (ev_sentAt T cp4 y2 (sel (ev_var rfl)) (ev_var rfl)) (sq_sent cp4 y2)) (by rw [List.length_map, len_sent cp4 y2, el])) (ev_var rfl) rv_I0) fun H5 e5 => ?_
  have e15 : Ex H H5 := e12.trans (e3.trans (e4.trans e5))
  refine q_when (et_test (ev_op (ev_var rfl) ev_c (rv_eq rfl))) (fun hb H6 e6 => ?_) (fun hb H6 e6 => ?_)
  · have h0 := vint_eq hb
    refine ret_step (ans := [0, 0, 0]) (Step.ofEx hN (e15.trans e6)) (el_lst (ea_cons ev_c (ea_cons ev_c (ea_cons ev_c ea_nil))) (by show 3 ≤ 100000; decide)) (r.of (resOf_ok ?_))
    rw [pf, if_neg (by omega), show (lp s x y).sent.length - (lp s x y).acknowledged = 0 by omega] <;> rfl
  · have h0 := vint_ne hb
    refine ret_step (ans := [0, ((lp s x y).sent.length : Int) - ((lp s x y).acknowledged : Int), ((lp s x y).acknowledged : Int) + 1]) (Step.ofEx hN (e15.trans e6)) (el_lst (ea_cons ev_c (ea_cons (ev_var rfl) (ea_cons (ev_op (ev_var rfl) ev_c rv_I0) ea_nil))) (by show 3 ≤ 100000; decide)) (r.of (resOf_ok ?_))
    rw [pf, if_pos (by omega)]
    show Except.ok (s, [((((lp s x y).sent.length - (lp s x y).acknowledged : Nat)) : Int), _]) = _
    congr 3
    omega
/-! ### received -/
def sp_received (K : PySem.W.Frag) (A : Ads) : Sp := fun vs H Q E => ∃ x a f c : Int, SpC A [.int x, .int a, .int f, .int c] (.received x a f c) vs H Q E
theorem len_received : ∀ vs H Q E, sp_received K A vs H Q E → vs.length = (["network", "number", "sender", "first", "count"] : List Str).length := by
  rintro vs H Q E ⟨x, a, f, c, W, G, s, k, rfl, _⟩
  rfl
def t_received (K : PySem.W.Frag) (A : Ads) : TS :=
 tSeq (tAsg (tCall (sp_pair_refusal K A) [] E0 (tCons (tVar 0) (tCons (tVar 1) (tCons (tVar 2) (tCons (tAndV (tCall (sp_is_message_number K A) [] E0 (tCons (tVar 3) (tNil))) (tCall (sp_is_message_count K A) [] E0 (tCons (tVar 4) (tNil)))) (tNil)))))) (gName 5))
 (tSeq (tIfS (tTest (tOp (rNe) (tVar 5) (tC (.int 0))))
 (tRet (tLst (tCons (tVar 5) (tNil))))
 (tNext))
 (tSeq (tAsg (tSl (rSlL K) (tOp (rIxL K) (tFld K (tFld K (tMeth A.c_Network "site" (sp_Network_site K A) [] E0 (tVar 0) (tCons (tVar 1) (tNil))) "present") "received") (tVar 2)) (tPart (tOp rMinus (tVar 3) (tC (.int 1)))) (tPart (tOp rPlus (tOp rMinus (tVar 3) (tC (.int 1))) (tVar 4)))) (gName 6))
 (tSeq (tAsg (tLst (tCons (tC (.int 0)) (tCons (tCB (rLenS K) (tCons (tVar 6) (tNil))) (tNil)))) (gName 7))
 (tSeq (tFor (iList K (tVar 6)) (gName 8)
 (tSeq (tDrop (tBM K "list" rAppend (tVar 7) (tCons (tCB (rLenS K) (tCons (tVar 8) (tNil))) (tNil))))
 (tDrop (tBM K "list" rExtend (tVar 7) (tCons (tVar 8) (tNil))))))
 (tRet (tVar 7))))))
def recMsgs (ms : List Vbxlac.Bytes) : List Int := ms.flatMap fun m => Vbxlac.toInt m.length :: Vbxlac.bytesResult m
theorem recMsgs_snoc (ms : List Vbxlac.Bytes) (m : Vbxlac.Bytes) : recMsgs (ms ++ [m]) = recMsgs ms ++ (Vbxlac.toInt m.length :: Vbxlac.bytesResult m) := by
  unfold recMsgs
  rw [List.flatMap_append]
  simp
theorem recMsgs_len : ∀ (ms : List Vbxlac.Bytes), (∀ m ∈ ms, m.length ≤ 16) → (recMsgs ms).length ≤ 17 * ms.length
  | [], _ => Nat.le_refl _
  | m :: ms, h => by
    have h1 := h m (List.mem_cons_self ..)
    have h2 := recMsgs_len ms fun x hx => h x (List.mem_cons_of_mem _ hx)
    show ((Vbxlac.toInt m.length :: Vbxlac.bytesResult m) ++ recMsgs ms).length ≤ _
    rw [List.length_append, List.length_cons, List.length_cons]
    unfold Vbxlac.bytesResult
    rw [List.length_map]
    omega
theorem cut_first {α : Type} (xs : List α) {f c : Nat} (hf : 1 ≤ f) : (xs.drop (min (f - 1) xs.length)).take (min (f - 1 + c) xs.length - min (f - 1) xs.length) = (xs.drop (f - 1)).take c := by
  by_cases h : f - 1 ≤ xs.length
  · rw [Nat.min_eq_left h]
    by_cases h2 : f - 1 + c ≤ xs.length
    · rw [Nat.min_eq_left h2, show f - 1 + c - (f - 1) = c by omega]
    · rw [Nat.min_eq_right (by omega)]
      rw [List.take_of_length_le (by simp), List.take_of_length_le (by simp; omega)]
  · rw [Nat.min_eq_right (by omega), Nat.min_eq_right (by omega), Nat.sub_self, List.take_zero, List.drop_eq_nil_of_le (by omega), List.take_nil]
theorem pure_received (T : Txt K mg A) (vs : List V) (H : Hp) (Q : VK) (E : XK) (h : sp_received K A vs H Q E) : t_received K A { nx := fun _ H' => Q .non H', rt := Q } (start ["network", "number", "sender", "first", "count", "refusal", "messages", "told", "payload"] vs) H := by
  obtain ⟨x, a, f, c, W, G, s, k, rfl, hN, hG, hk, hW, r⟩ := h
  have hS := hG.sites
  refine q_asg (ev_call (ea_cons (ev_var rfl) (ea_cons (ev_var rfl) (ea_cons (ev_var rfl) (ea_cons (ev_andV (ev_call (ea_cons (ev_var rfl) ea_nil) sv_is_message_number) fun _ => ev_call (ea_cons (ev_var rfl) ea_nil) sv_is_message_count) ea_nil)))) (sv_pair_refusal hN)) fun H1 e1 => ?_
  have hN1 := hN.ex e1
  refine q_refuse hN1 rfl (fun hc => RetStep.left (r.of (resOf_error ?_)) e1) fun hc H2 e2 => ?_
  · simp only [Vbxlac.perform, withPair_code]
    exact if_neg hc
  obtain ⟨hv, x, y, rfl, rfl, x1, x2, y1, y2, xy⟩ := pair_facts hc
  have hv' : (1 ≤ f ∧ f ≤ 60) ∧ 0 ≤ c ∧ c ≤ 60 := by simpa using hv
  obtain ⟨f, rfl⟩ : ∃ n : Nat, f = (n : Int) := ⟨f.toNat, by omega⟩
  obtain ⟨c, rfl⟩ : ∃ n : Nat, c = (n : Int) := ⟨c.toNat, by omega⟩
  have e12 := e1.trans e2
  have hN2 := hN.ex e12
  have hi : x - 1 < s.sites.length := by omega
  have el := plc_present s (x := x) (o := y) x1 y1
  have cp2 := hN2.copy hS.links (k := false) hi
  have sel : ∀ {H' : Hp} {te : TE} {σ : L2.St}, Ev te σ H' (.ref (G.ad (.cp (x - 1) false .self))) → Ev te σ H' (.ref ((G.cg (x - 1) false).ad .self)) := fun h => h
  have r60 := hS.rec60 x y
  have pay : Pays H2 ((G.cg (x - 1) false).ps (.recv y)) (lp s x y).received := by
    have := cp2.pay (.recv y) y2
    rw [show msgs (linksOf s (x - 1) false) (.recv y) = (lp s x y).received from by rw [← el] <;> rfl] at this
    exact this
  generalize hps : (G.cg (x - 1) false).ps (.recv y) = ps at pay
  generalize hms : (lp s x y).received = ms at pay r60
  have isp : ∀ m ∈ ms, isPay m := fun m hm => by
    rw [← hms] at hm
    exact hS.payD y x m ((hS.rcvP x y).subset hm)
  have pf : Vbxlac.perform s (.received (x : Int) (y : Int) (f : Int) (c : Int)) = .ok (s, Vbxlac.toInt ((ms.drop (f - 1)).take c).length :: recMsgs ((ms.drop (f - 1)).take c)) := by
    simp only [Vbxlac.perform, withPair_code]
    refine (if_pos hc).trans ?_
    rw [← hms] <;> rfl
  generalize hcut : (ms.drop (f - 1)).take c = cut at pf
  have cutp : ∀ m ∈ cut, isPay m := fun m hm => by
    rw [← hcut] at hm
    exact isp m (List.mem_of_mem_drop (List.mem_of_mem_take hm))
  have cut60 : cut.length ≤ 60 := by
    rw [← hcut, List.length_take, List.length_drop]
    omega
  have pcut : Pays H2 ((ps.drop (f - 1)).take c) cut := by
    refine ⟨by rw [← hcut, List.length_take, List.length_take, List.length_drop, List.length_drop, pay.1], fun i p m hp hm => ?_⟩
    rw [← hcut] at hm
    rw [List.getElem?_take] at hp hm
    split at hp
    · rename_i hlt
      rw [if_pos hlt] at hm
      rw [List.getElem?_drop] at hp hm
      exact pay.2 _ p m hp hm
    · cases hp
  refine q_asgL (xs := ((ps.drop (f - 1)).take c).map V.ref) ?_ fun F H3 nF e3 hF => ?_
  · have ec : cutV (((G.cg (x - 1) false).ps (.recv y)).map V.ref) (some ((f - 1 : Nat) : Int)) (some ((f - 1 + c : Nat) : Int)) = ((ps.drop (f - 1)).take c).map V.ref := by
      rw [hps]
      unfold cutV
      rw [HT.sIx_nat, HT.sIx_nat, List.length_map, ← List.length_map (f := V.ref) (as := ps), cut_first _ (by omega), List.map_take, List.map_drop]
    rw [← ec]
    refine el_sl (ev_recAt T cp2 y2 (sel (ev_present T hN2 hi (ev_site T hN2 x1 x2 (ev_var rfl) (ev_var rfl)))) (ev_var rfl)) (eo_some (ev_is (ev_op (ev_var rfl) ev_c rv_I0) ?_)) (eo_some (ev_is (ev_op (ev_op (ev_var rfl) ev_c rv_I0) (ev_var rfl) rv_I0) ?_)) (sq_recv cp2 y2)
    · show V.int _ = V.int _
      congr 1
      omega
    · show V.int _ = V.int _
      congr 1
      omega
  have pc3 : Pays H3 ((ps.drop (f - 1)).take c) cut := pcut.ex fun a _ o ho => e3 a o ho
  generalize (ps.drop (f - 1)).take c = qs at hF pc3
  have e13 := e12.trans e3
  have lq : qs.length = cut.length := pc3.1
  refine q_asgL (xs := ansV [0, Vbxlac.toInt cut.length]) (el_lst (ea_cons ev_c (ea_cons (ev_is (ev_len (ev_var rfl) (sq_of hF)) (by rw [List.length_map, lq] <;> rfl)) ea_nil)) (by show 2 ≤ 100000; decide)) fun t H4 nt e4 ht => ?_
  have e14 := e13.trans e4
  have nt0 : H t = none := fresh_back e13 nt
  have ntF : t ≠ F := fun z => by rw [z, hF] at nt; cases nt
  have bnd : ∀ i, (ansV ([0, Vbxlac.toInt cut.length] ++ recMsgs (cut.take i))).length ≤ 2 + 17 * 60 := fun i => by
    unfold ansV
    rw [List.length_map, List.length_append]
    have h1 := recMsgs_len (cut.take i) fun m hm => (cutp m (List.mem_of_mem_take hm)).1
    have h2 := List.length_take_le' i cut
    show 2 + _ ≤ _
    omega
  refine q_forLn (ev_var rfl) (sq_of (e4 _ _ hF)) (fun i σ' H' => Ex H3 H' ∧ H' t = some (.lst (ansV ([0, Vbxlac.toInt cut.length] ++ recMsgs (cut.take i)))) ∧ ∃ z0 z1 z2 z3 z4 z5 z8, σ' = [z0, z1, z2, z3, z4, z5, some (.ref F), some (.ref t), z8])
    (fun H5 e5 => ⟨e4.trans e5, e5 _ _ ht, _, _, _, _, _, _, _, rfl⟩) (fun i σ' H' _ ⟨e, _⟩ => sq_of (e _ _ hF)) ?_ ?_
  · rintro i v σ' H' hi ⟨e, hH, z0, z1, z2, z3, z4, z5, z8, rfl⟩
    rw [List.getElem?_map] at hi
    cases hq : qs[i]? with
    | none => rw [hq] at hi; cases hi
    | some pa =>
      rw [hq] at hi
      cases hi
      have hil : i < cut.length := by rw [← lq]; exact (List.getElem?_eq_some_iff.mp hq).1
      obtain ⟨m, hm⟩ : ∃ m, cut[i]? = some m := ⟨_, List.getElem?_eq_getElem hil⟩
      have hpm : H3 pa = some (.lst (byV m)) := pc3.2 i pa m hq hm
      have tpa : pa ≠ t := fun z => by rw [z, nt] at hpm; cases hpm
      have b1 := bnd i
      have b2 := bnd (i + 1)
      refine q_app hH (ev_var rfl) (ev_is (ev_len (ev_var rfl) (sq_of (e _ _ hpm))) (by rw [byV_len])) (Nat.lt_of_le_of_lt b1 (by decide)) fun H5 e5 => ?_
      have ht5 : (upd H5 t (.lst (ansV ([0, Vbxlac.toInt cut.length] ++ recMsgs (cut.take i)) ++ [.int (m.length : Int)]))) t = _ := upd_same
      have hp5 : (upd H5 t (.lst (ansV ([0, Vbxlac.toInt cut.length] ++ recMsgs (cut.take i)) ++ [.int (m.length : Int)]))) pa = some (.lst (byV m)) := (upd_ne tpa).trans (e5 _ _ (e _ _ hpm))
      have ex5 : Ex H3 (upd H5 t (.lst (ansV ([0, Vbxlac.toInt cut.length] ++ recMsgs (cut.take i)) ++ [.int (m.length : Int)]))) := Ex.mut (e.trans e5) nt
      have step : ansV ([0, Vbxlac.toInt cut.length] ++ recMsgs (cut.take i)) ++ [.int (m.length : Int)] ++ byV m = ansV ([0, Vbxlac.toInt cut.length] ++ recMsgs (cut.take (i + 1))) := by
        rw [take_snoc hm, recMsgs_snoc, ← ansV_bytes]
        unfold ansV
        simp [List.map_append, Vbxlac.toInt]
      refine s_ext ht5 (ev_var rfl) (ev_var rfl) hp5 ?_ fun H6 e6 => ?_
      · rw [← List.length_append, step]
        exact Nat.le_trans (bnd (i + 1)) (by decide)
      · rw [step]
        exact ⟨Ex.mut (ex5.trans e6) nt, upd_same, _, _, _, _, _, _, _, rfl⟩
  · rintro σ' H' ⟨e, hH, z0, z1, z2, z3, z4, z5, z8, rfl⟩
    rw [List.length_map, lq, List.take_length] at hH
    show tRet (tVar 7) { nx := fun _ H' => Q .non H', rt := Q } [z0, z1, z2, z3, z4, z5, some (.ref F), some (.ref t), z8] H'
    refine s_ret (ev_var rfl) fun H5 e5 => (r.of (resOf_ok pf)) t G H5 (Step.ofEx hN (e13.trans (e.trans e5))) nt0 (hN.fresh nt0) (e5 _ _ hH)
/-! ### list_packets -/
def listedOf (o : Option Vbxlac.Packet) : List Int := match o with
  | none => [0, 0, 0, 0]
  | some p => Vbxlac.toInt p.kind :: Vbxlac.packetResult p
def sp_listed_fields (K : PySem.W.Frag) (A : Ads) : Sp := fun vs H Q _ => ∃ (x : V) (o : Option Vbxlac.Packet), vs = [x] ∧ (o = none → x = .non) ∧ (∀ p, o = some p → ∃ q pl, x = .ref q ∧ PktAt A H q p pl) ∧ RetL (ansV (listedOf o)) H Q
theorem len_listed_fields : ∀ vs H Q E, sp_listed_fields K A vs H Q E → vs.length = (["packet"] : List Str).length := by
  rintro vs H Q E ⟨x, o, rfl, _⟩
  rfl
def t_listed_fields (K : PySem.W.Frag) (A : Ads) : TS :=
 tSeq (tIfS (tTest (tOp (rIsN) (tVar 0) (tC .non)))
 (tRet (tLst (tCons (tC (.int 0)) (tCons (tC (.int 0)) (tCons (tC (.int 0)) (tCons (tC (.int 0)) (tNil)))))))
 (tNext))
 (tRet (tLst (tCons (tFld K (tVar 0) "kind") (tCons (tFld K (tVar 0) "sender") (tCons (tFld K (tVar 0) "receiver") (tCons (tFld K (tVar 0) "number") (tNil)))))))
theorem pure_listed_fields (T : Txt K mg A) (vs : List V) (H : Hp) (Q : VK) (E : XK) (h : sp_listed_fields K A vs H Q E) : t_listed_fields K A { nx := fun _ H' => Q .non H', rt := Q } (start ["packet"] vs) H := by
  obtain ⟨x, o, rfl, h0, h1, k⟩ := h
  cases o with
  | none =>
    rw [h0 rfl]
    refine q_when (b := true) (et_is (et_test (ev_op (ev_var (v := .non) rfl) ev_c rv_isN)) (by simp)) (fun _ H2 e2 => ?_) (fun z => by cases z)
    exact s_retL (xs := ansV (listedOf none)) (el_lst (ea_cons ev_c (ea_cons ev_c (ea_cons ev_c (ea_cons ev_c ea_nil)))) (by show 4 ≤ 100000; decide)) fun q H3 nq e3 h3 => k.go e2 nq e3 h3
  | some p =>
    obtain ⟨q, pl, rfl, hp⟩ := h1 p rfl
    refine q_when (b := false) (et_is (et_test (ev_op (ev_var (v := .ref q) rfl) ev_c rv_isN)) (by simp)) (fun z => by cases z) (fun _ H2 e2 => ?_)
    have hp2 := hp.ex e2
    exact s_retL (xs := ansV (listedOf (some p))) (el_lst (ea_cons (pk_kind T hp2 (ev_var rfl)) (ea_cons (pk_sender T hp2 (ev_var rfl)) (ea_cons (pk_receiver T hp2 (ev_var rfl)) (ea_cons (pk_number T hp2 (ev_var rfl)) ea_nil)))) (by show 4 ≤ 100000; decide)) fun q H3 nq e3 h3 => k.go e2 nq e3 h3
def sp_list_packets (K : PySem.W.Frag) (A : Ads) : Sp := SpC A [] .listPackets
theorem len_list_packets : ∀ vs H Q E, sp_list_packets K A vs H Q E → vs.length = (["network"] : List Str).length := by
  rintro vs H Q E ⟨W, G, s, k, rfl, _⟩
  rfl
def t_list_packets (K : PySem.W.Frag) (A : Ads) : TS :=
 tSeq (tAsg (tCall (sp_sites_refusal K A) [] E0 (tCons (tVar 0) (tCons (tLst (tNil)) (tCons (tC (.bl true)) (tNil))))) (gName 1))
 (tSeq (tIfS (tTest (tOp (rNe) (tVar 1) (tC (.int 0))))
 (tRet (tLst (tCons (tVar 1) (tNil))))
 (tNext))
 (tSeq (tAsg (tLst (tCons (tC (.int 0)) (tCons (tCB (rLenS K) (tCons (tFld K (tVar 0) "wires") (tNil))) (tNil)))) (gName 2))
 (tSeq (tFor (iList K (tFld K (tVar 0) "wires")) (gName 3)
 (tDrop (tBM K "list" rExtend (tVar 2) (tCons (tCall (sp_listed_fields K A) [] E0 (tCons (tCall (sp_packet_of K A) [] E0 (tCons (tFld K (tVar 3) "octets") (tNil))) (tNil))) (tNil)))))
 (tRet (tVar 2)))))
def listedAll (ws : List Vbxlac.WirePacket) : List Int := ws.flatMap fun w => listedOf (Vbxlac.readPacket w.bytes)
theorem listedAll_snoc (ws : List Vbxlac.WirePacket) (w : Vbxlac.WirePacket) : listedAll (ws ++ [w]) = listedAll ws ++ listedOf (Vbxlac.readPacket w.bytes) := by
  unfold listedAll
  rw [List.flatMap_append]
  simp
theorem listedOf_len (o : Option Vbxlac.Packet) : (listedOf o).length = 4 := by
  cases o <;> rfl
theorem listedAll_len : ∀ ws : List Vbxlac.WirePacket, (listedAll ws).length = 4 * ws.length
  | [] => rfl
  | w :: ws => by
    show (listedOf _ ++ listedAll ws).length = _
    rw [List.length_append, listedOf_len, listedAll_len ws, List.length_cons]
    omega
theorem wire_at {s : Vbxlac.State} {i : Nat} (hi : i < s.wires.length) : s.wires[i]? = some (wireOf s i) := by
  unfold wireOf
  rw [List.getElem?_eq_getElem hi] <;> rfl
theorem pure_list_packets (T : Txt K mg A) (vs : List V) (H : Hp) (Q : VK) (E : XK) (h : sp_list_packets K A vs H Q E) : t_list_packets K A { nx := fun _ H' => Q .non H', rt := Q } (start ["network", "refusal", "told", "carried"] vs) H := by
  obtain ⟨W, G, s, k, rfl, hN, hG, hk, hW, r⟩ := h
  refine q_asg (ev_refusal0 T hN rfl) fun H1 e1 => ?_
  have hN1 := hN.ex e1
  refine q_refuse hN1 rfl (fun hc => RetStep.left (r.of (resOf_error ?_)) e1) fun hc H2 e2 => ?_
  · simp only [Vbxlac.perform, site_code0]
    exact if_neg hc
  have e12 := e1.trans e2
  have hN2 := hN.ex e12
  have hw : s.wires.length ≤ 20000 := by have := hG.room; omega
  have pf : Vbxlac.perform s .listPackets = .ok (s, Vbxlac.toInt s.wires.length :: listedAll s.wires) := by
    simp only [Vbxlac.perform, site_code0]
    refine (if_pos hc).trans ?_
    congr 3
  refine q_asgL (xs := ansV [0, Vbxlac.toInt s.wires.length]) (el_lst (ea_cons ev_c (ea_cons (ev_is (ev_len (ev_wires T hN2 (ev_var rfl)) (sq_wires hN2)) (by rw [List.length_map, List.length_range] <;> rfl)) ea_nil)) (by show 2 ≤ 100000; decide)) fun t H3 nt e3 ht => ?_
  have nt0 : H t = none := fresh_back e12 nt
  have bnd : ∀ i, (ansV ([0, Vbxlac.toInt s.wires.length] ++ listedAll (s.wires.take i))).length ≤ 2 + 4 * 20000 := fun i => by
    unfold ansV
    rw [List.length_map, List.length_append, listedAll_len]
    have h2 := List.length_take_le' i s.wires
    show 2 + _ ≤ _
    omega
  refine q_forLn (ev_wires T (hN2.ex e3) (ev_var rfl)) (sq_wires (hN2.ex e3)) (fun i σ' H' => Ex H2 H' ∧ H' t = some (.lst (ansV ([0, Vbxlac.toInt s.wires.length] ++ listedAll (s.wires.take i)))) ∧ ∃ z1 z3, σ' = [some (.ref (G.ad .net)), z1, some (.ref t), z3])
    (fun H5 e5 => ⟨e3.trans e5, e5 _ _ ht, _, _, rfl⟩) (fun i σ' H' _ ⟨e, _⟩ => sq_wires (hN2.ex e)) ?_ ?_
  · rintro i v σ' H' hi ⟨e, hH, z1, z3, rfl⟩
    obtain ⟨hil, rfl⟩ := at_range hi
    have hN' := hN2.ex e
    have ok := (hG.wire hil).ok
    have step : ansV ([0, Vbxlac.toInt s.wires.length] ++ listedAll (s.wires.take i)) ++ ansV (listedOf (Vbxlac.readPacket (wireOf s i).bytes)) = ansV ([0, Vbxlac.toInt s.wires.length] ++ listedAll (s.wires.take (i + 1))) := by
      rw [take_snoc (wire_at hil), listedAll_snoc]
      unfold ansV
      simp [List.map_append]
    -- told.extend(listed_fields(packet_of(carried.octets)))
    refine s_tDrop ⟨_, rfl, Or.inl ⟨rfl, _, sq_of hH⟩, ?_⟩
    have rest : ∀ (x : V) (H3 : Hp), Ex H' H3 → (Vbxlac.readPacket (wireOf s i).bytes = none → x = .non) → (∀ p, Vbxlac.readPacket (wireOf s i).bytes = some p → ∃ q pl, x = .ref q ∧ PktAt A H3 q p pl) → ∀ Q' : VK,
        (∀ l H4, Ex H' H4 → H4 l = some (.lst (ansV (listedOf (Vbxlac.readPacket (wireOf s i).bytes)))) → Q' (.ref l) H4) → sp_listed_fields K A [x] H3 Q' E0 := fun x H3 e3 h0 h1 Q' k' =>
      ⟨x, _, rfl, h0, h1, fun l H4 nl e4 hl => k' l H4 (e3.trans e4) hl⟩
    have fin : ∀ l H4, Ex H' H4 → H4 l = some (.lst (ansV (listedOf (Vbxlac.readPacket (wireOf s i).bytes)))) → rExtend (.ref t) [.ref l] H4 fun _ H5 => Ex H2 H5 ∧ H5 t = some (.lst (ansV ([0, Vbxlac.toInt s.wires.length] ++ listedAll (s.wires.take (i + 1))))) ∧ ∃ z1' z3', [some (.ref (G.ad .net)), z1, some (.ref t), some (.ref (G.ad (.wire i)))] = [some (.ref (G.ad .net)), z1', some (.ref t), z3'] := fun l H4 e4 hl => by
      refine ⟨t, l, _, _, rfl, rfl, e4 _ _ hH, hl, ?_, ?_⟩
      · rw [← List.length_append, step]
        exact Nat.le_trans (bnd (i + 1)) (by decide)
      · rw [step]
        exact ⟨Ex.mut (e.trans e4) nt, upd_same, _, _, rfl⟩
    refine ev_octets T hN' hil (ev_var rfl) H' (Ex.refl H') _ fun H3 e3 => ?_
    refine ⟨G.ad (.oct i), (wireOf s i).bytes, rfl, sq_of ((hN'.ex e3).here (.oct i) hil), ok.lt, Nat.le_trans ok.len (by decide), fun hr H4 e4 => ?_, fun p hr q pl H4 nq np e4 hp => ?_⟩
    · exact rest .non H4 (e3.trans e4) (fun _ => rfl) (fun p z => by rw [hr] at z; cases z) _ fin
    · exact rest (.ref q) H4 (e3.trans e4) (fun z => by rw [hr] at z; cases z) (fun p' z => by rw [hr] at z; cases z; exact ⟨q, pl, rfl, hp⟩) _ fin
  · rintro σ' H' ⟨e, hH, z1, z3, rfl⟩
    rw [List.length_map, List.length_range, List.take_length] at hH
    show tRet (tVar 2) { nx := fun _ H' => Q .non H', rt := Q } [some (.ref (G.ad .net)), z1, some (.ref t), z3] H'
    refine s_ret (ev_var rfl) fun H5 e5 => (r.of (resOf_ok pf)) t G H5 (Step.ofEx hN (e12.trans (e.trans e5))) nt0 (hN.fresh nt0) (e5 _ _ hH)
end Sur
namespace Sur
open PySem PySem.Spec PyProof.Rows L2 Evl
variable {P : Program} {w : World} {K : PySem.W.Frag} {mg : Str → Option Value} {base : Heap} {A : Ads} {W : Addr → Prop}
/-! ## write_packet, read_packet -/
def writeAns (k a b n : Int) (ns : List Int) : List Int :=
  if (Vbxlac.inRange k 1 2 && (Vbxlac.isSite a && (Vbxlac.isSite b && (Vbxlac.inRange n 0 Vbxlac.maxPosts && Vbxlac.areBytes ns Vbxlac.maxPayload)))) = false then [-1]
  else if a = b then [-6]
  else if (k = 1 ∧ n = 0) ∨ (k = 2 ∧ ns ≠ []) then [-9]
  else 0 :: Vbxlac.bytesResult (Vbxlac.writePacket ⟨k.toNat, a.toNat, b.toNat, n.toNat, Vbxlac.toBytes ns⟩)
theorem resOf_write (s : Vbxlac.State) (k a b n : Int) (ns : List Int) : resOf s (.writePacket k a b n ns) = (s, writeAns k a b n ns) := by
  unfold resOf writeAns
  simp only [Vbxlac.perform]
  by_cases h1 : (Vbxlac.inRange k 1 2 && (Vbxlac.isSite a && (Vbxlac.isSite b && (Vbxlac.inRange n 0 Vbxlac.maxPosts && Vbxlac.areBytes ns Vbxlac.maxPayload)))) = false
  · rw [if_pos h1, if_pos h1] <;> rfl
  · rw [if_neg h1, if_neg h1]
    by_cases h2 : a = b
    · rw [if_pos h2, if_pos h2] <;> rfl
    · rw [if_neg h2, if_neg h2]
      by_cases h3 : (k = 1 ∧ n = 0) ∨ (k = 2 ∧ ns ≠ [])
      · rw [if_pos h3, if_pos h3] <;> rfl
      · rw [if_neg h3, if_neg h3] <;> rfl
def readAns (ns : List Int) : List Int :=
  if Vbxlac.areBytes ns 40 = false then [-1]
  else 0 :: (match Vbxlac.readPacket (Vbxlac.toBytes ns) with
    | none => [0]
    | some p => 1 :: Vbxlac.toInt p.kind :: (Vbxlac.packetResult p ++ Vbxlac.bytesResult p.payload))
theorem resOf_read (s : Vbxlac.State) (ns : List Int) : resOf s (.readPacket ns) = (s, readAns ns) := by
  unfold resOf readAns
  simp only [Vbxlac.perform]
  by_cases h1 : Vbxlac.areBytes ns 40 = false
  · rw [if_pos h1, if_pos h1] <;> rfl
  · rw [if_neg h1, if_neg h1] <;> rfl
theorem el_octets {σ : L2.St} {H : Hp} {te : TE} {p : Vbxlac.Packet} (h : EvPk A te σ H p) (hz : p.payload.length ≤ 1000) : EvL (tCall (sp_octets_of K A) [] E0 (tCons te tNil)) σ H (byV (Vbxlac.writePacket p)) := fun H1 e Q q =>
  h H1 e _ fun x pl H2 e2 nx hp => sl_octets_of (K := K) hp hz H2 (Ex.refl H2) Q (fun o H3 no e3 ho => q o H3 (fresh_back e2 no) (e2.trans e3) ho) E0
def sp_write_packet (K : PySem.W.Frag) (A : Ads) : Sp := fun vs H Q _ => ∃ (k a b n : Int) (ns : List Int) (pa : Addr), vs = [.int k, .int a, .int b, .int n, .ref pa] ∧ H pa = some (.lst (ansV ns)) ∧ ns.length ≤ 1000 ∧ RetL (ansV (writeAns k a b n ns)) H Q
theorem len_write_packet : ∀ vs H Q E, sp_write_packet K A vs H Q E → vs.length = (["kind", "sender", "receiver", "number", "payload"] : List Str).length := by
  rintro vs H Q E ⟨k, a, b, n, ns, pa, rfl, _⟩
  rfl
def t_write_packet (K : PySem.W.Frag) (A : Ads) : TS :=
 tSeq (tIfS (tOr (tTest (tOp (rIn K true) (tVar 0) (tTup (tCons (tC (.int (1))) (tCons (tC (.int (2))) (tNil)))))) (tOr (tNot (tB (tCall (sp_is_message_count K A) [] E0 (tCons (tVar 3) (tNil))))) (tNot (tB (tCall (sp_is_payload K A) [] E0 (tCons (tVar 4) (tNil)))))))
 (tRet (tLst (tCons (tC (.int (-1))) (tNil))))
 (tNext))
 (tSeq (tIfS (tOr (tNot (tB (tCall (sp_is_site_number K A) [] E0 (tCons (tVar 1) (tNil))))) (tNot (tB (tCall (sp_is_site_number K A) [] E0 (tCons (tVar 2) (tNil))))))
 (tRet (tLst (tCons (tC (.int (-1))) (tNil))))
 (tNext))
 (tSeq (tIfS (tTest (tOp (rEq) (tVar 1) (tVar 2)))
 (tRet (tLst (tCons (tC (.int (-6))) (tNil))))
 (tNext))
 (tSeq (tIfS (tAnd (tTest (tOp (rEq) (tVar 0) (tC (.int (1))))) (tTest (tOp (rEq) (tVar 3) (tC (.int 0)))))
 (tRet (tLst (tCons (tC (.int (-9))) (tNil))))
 (tNext))
 (tSeq (tIfS (tAnd (tTest (tOp (rEq) (tVar 0) (tC (.int (2))))) (tTest (tOp (rGt) (tCB (rLenS K) (tCons (tVar 4) (tNil))) (tC (.int 0)))))
 (tRet (tLst (tCons (tC (.int (-9))) (tNil))))
 (tNext))
 (tRet (tOp rCat (tLst (tCons (tC (.int 0)) (tNil))) (tCall (sp_octets_of K A) [] E0 (tCons (tMake A.c_Packet (sp_Packet_init K A) [] E0 (tCons (tVar 0) (tCons (tVar 1) (tCons (tVar 2) (tCons (tVar 3) (tCons (tVar 4) (tNil))))))) (tNil)))))))))
theorem in_kinds (k : Int) : inV (.int k) [.int 1, .int 2] = Vbxlac.inRange k 1 2 := by
  unfold inV Vbxlac.inRange
  show (decide ((1 : Int) = k) || (decide ((2 : Int) = k) || false)) = _
  by_cases h1 : k = 1
  · subst h1; rfl
  · by_cases h2 : k = 2
    · subst h2; rfl
    · have e1 : decide ((1 : Int) = k) = false := decide_eq_false (by omega)
      have e2 : decide ((2 : Int) = k) = false := decide_eq_false (by omega)
      have e3 : (decide ((1 : Int) ≤ k) && decide (k ≤ 2)) = false := by
        rw [Bool.and_eq_false_iff, decide_eq_false_iff_not, decide_eq_false_iff_not]
        omega
      rw [e1, e2, e3] <;> rfl
theorem pure_write_packet (T : Txt K mg A) (vs : List V) (H : Hp) (Q : VK) (E : XK) (h : sp_write_packet K A vs H Q E) : t_write_packet K A { nx := fun _ H' => Q .non H', rt := Q } (start ["kind", "sender", "receiver", "number", "payload"] vs) H := by
  obtain ⟨k, a, b, n, ns, pa, rfl, hpa, hz, kq⟩ := h
  have bad : ∀ {H1 : Hp}, Ex H H1 → ∀ {σ : L2.St} {D : Ends} {e : Int}, D.rt = Q → writeAns k a b n ns = [e] → tRet (tLst (tCons (tC (.int e)) tNil)) D σ H1 := fun {H1} e1 {σ D e} hD hw => by
    refine s_retL (xs := ansV [e]) (el_one ev_c) fun q H2 nq e2 h2 => ?_
    rw [hD]
    rw [hw] at kq
    exact kq.go e1 nq e2 h2
  refine q_when (b := !Vbxlac.inRange k 1 2 || (!Vbxlac.inRange n 0 60 || !Vbxlac.areBytes ns 16)) ?_ (fun hb H1 e1 => ?_) (fun hb H1 e1 => ?_)
  · rw [← in_kinds]
    exact et_or (et_test (ev_niU (ev_var rfl) (eu_tup (ea_cons ev_c (ea_cons ev_c ea_nil)) (by show 2 ≤ 100000; decide)) rfl rfl)) fun _ => et_or (et_not (et_B (ev_call (ea_cons (ev_var rfl) ea_nil) sv_is_message_count))) fun _ => et_not (et_B (ev_call (ea_cons (ev_var rfl) ea_nil) (sv_is_payload (sq_of hpa) hz)))
  · refine bad e1 rfl (if_pos ?_)
    show (Vbxlac.inRange k 1 2 && (Vbxlac.isSite a && (Vbxlac.isSite b && (Vbxlac.inRange n 0 60 && Vbxlac.areBytes ns 16)))) = false
    cases h1 : Vbxlac.inRange k 1 2 <;> cases h2 : Vbxlac.inRange n 0 60 <;> cases h3 : Vbxlac.areBytes ns 16 <;> simp_all
  have hb' : Vbxlac.inRange k 1 2 = true ∧ Vbxlac.inRange n 0 60 = true ∧ Vbxlac.areBytes ns 16 = true := by simpa using hb
  refine q_when (b := !Vbxlac.isSite a || !Vbxlac.isSite b) ?_ (fun hc H2 e2 => ?_) (fun hc H2 e2 => ?_)
  · exact et_or (et_not (et_B (ev_call (ea_cons (ev_var rfl) ea_nil) sv_is_site_number))) fun _ => et_not (et_B (ev_call (ea_cons (ev_var rfl) ea_nil) sv_is_site_number))
  · refine bad (e1.trans e2) rfl (if_pos ?_)
    cases h1 : Vbxlac.isSite a <;> cases h2 : Vbxlac.isSite b <;> simp_all
  have hc' : Vbxlac.isSite a = true ∧ Vbxlac.isSite b = true := by simpa using hc
  have e12 := e1.trans e2
  have all : ¬ (Vbxlac.inRange k 1 2 && (Vbxlac.isSite a && (Vbxlac.isSite b && (Vbxlac.inRange n 0 Vbxlac.maxPosts && Vbxlac.areBytes ns Vbxlac.maxPayload)))) = false := by
    show ¬ (Vbxlac.inRange k 1 2 && (Vbxlac.isSite a && (Vbxlac.isSite b && (Vbxlac.inRange n 0 60 && Vbxlac.areBytes ns 16)))) = false
    rw [hb'.1, hb'.2.1, hb'.2.2, hc'.1, hc'.2]
    decide
  have w1 : writeAns k a b n ns = if a = b then [-6] else if (k = 1 ∧ n = 0) ∨ (k = 2 ∧ ns ≠ []) then [-9] else 0 :: Vbxlac.bytesResult (Vbxlac.writePacket ⟨k.toNat, a.toNat, b.toNat, n.toNat, Vbxlac.toBytes ns⟩) := if_neg all
  refine q_when (et_test (ev_op (ev_var rfl) (ev_var rfl) (rv_eq rfl))) (fun hd H3 e3 => ?_) (fun hd H3 e3 => ?_)
  · exact bad (e12.trans e3) rfl (w1.trans (if_pos (vint_eq hd)))
  have w2 := w1.trans (if_neg (vint_ne hd))
  have e13 := e12.trans e3
  refine q_when (b := decide (V.int k = V.int 1) && decide (V.int n = V.int 0)) (et_and (et_test (ev_op (ev_var rfl) ev_c (rv_eq rfl))) fun _ => et_test (ev_op (ev_var rfl) ev_c (rv_eq rfl))) (fun hf H4 e4 => ?_) (fun hf H4 e4 => ?_)
  · rw [dec_vint, dec_vint] at hf
    exact bad (e13.trans e4) rfl (w2.trans (if_pos (.inl (by simpa using hf))))
  have e14 := e13.trans e4
  refine q_when (b := decide (V.int k = V.int 2) && decide ((0 : Int) < (ns.length : Int))) (et_and (et_test (ev_op (ev_var rfl) ev_c (rv_eq rfl))) fun _ => et_test (ev_op (ev_is (ev_len (ev_var rfl) (sq_of (e14 _ _ hpa))) (by unfold ansV; rw [List.length_map])) ev_c rv_I0)) (fun hg H5 e5 => ?_) (fun hg H5 e5 => ?_)
  · rw [dec_vint] at hg
    have hg' : k = 2 ∧ 0 < ns.length := by simpa using hg
    refine bad (e14.trans e5) rfl (w2.trans (if_pos (.inr ⟨hg'.1, fun z => ?_⟩)))
    rw [z] at hg'
    exact absurd hg'.2 (by decide)
  have e15 := e14.trans e5
  have w3 : writeAns k a b n ns = 0 :: Vbxlac.bytesResult (Vbxlac.writePacket ⟨k.toNat, a.toNat, b.toNat, n.toNat, Vbxlac.toBytes ns⟩) := by
    refine w2.trans (if_neg ?_)
    rw [dec_vint, dec_vint] at hf
    rw [dec_vint] at hg
    rintro (⟨z1, z2⟩ | ⟨z1, z2⟩)
    · rw [decide_eq_true z1, decide_eq_true z2] at hf
      cases hf
    · have : 0 < ns.length := List.length_pos_iff.mpr z2
      rw [decide_eq_true z1, decide_eq_true (by omega)] at hg
      cases hg
  have kp : 1 ≤ k ∧ k ≤ 2 := by have := hb'.1; unfold Vbxlac.inRange at this; simpa using this
  have np : 0 ≤ n ∧ n ≤ 60 := by have := hb'.2.1; unfold Vbxlac.inRange at this; simpa using this
  have ap := isSite_iff.mp hc'.1
  have bp := isSite_iff.mp hc'.2
  obtain ⟨k, rfl⟩ : ∃ m : Nat, k = (m : Int) := ⟨k.toNat, by omega⟩
  obtain ⟨a, rfl⟩ : ∃ m : Nat, a = (m : Int) := ⟨a.toNat, by omega⟩
  obtain ⟨b, rfl⟩ : ∃ m : Nat, b = (m : Int) := ⟨b.toNat, by omega⟩
  obtain ⟨n, rfl⟩ : ∃ m : Nat, n = (m : Int) := ⟨n.toNat, by omega⟩
  simp only [Int.toNat_natCast] at w3
  have l16 : (Vbxlac.toBytes ns).length ≤ 16 := (toBytes_pay hb'.2.2).1
  have hm : H5 pa = some (.lst (byV (Vbxlac.toBytes ns))) := by rw [bytes_back hb'.2.2]; exact e15 _ _ hpa
  refine s_retL (xs := [V.int 0] ++ byV (Vbxlac.writePacket ⟨k, a, b, n, Vbxlac.toBytes ns⟩)) (el_catL (el_one (e := 0) ev_c) (fun H6 e6 => el_octets (evpk_old (ev_var rfl) (ev_var rfl) (ev_var rfl) (ev_var rfl) (ev_var rfl) (e6 _ _ hm)) (Nat.le_trans l16 (by decide))) ?_) fun q H6 nq e6 h6 => ?_
  · rw [byV_len, writePacket_length]
    show 1 + _ ≤ _
    split
    · show 1 + (9 + (Vbxlac.toBytes ns).length) ≤ _
      omega
    · decide
  · rw [w3] at kq
    refine kq.go e15 nq e6 ?_
    rw [h6, ← ansV_bytes] <;> rfl
def sp_read_packet (K : PySem.W.Frag) (A : Ads) : Sp := fun vs H Q _ => ∃ (ns : List Int) (pa : Addr), vs = [.ref pa] ∧ H pa = some (.lst (ansV ns)) ∧ ns.length ≤ 1000 ∧ RetL (ansV (readAns ns)) H Q
theorem len_read_packet : ∀ vs H Q E, sp_read_packet K A vs H Q E → vs.length = (["octets"] : List Str).length := by
  rintro vs H Q E ⟨ns, pa, rfl, _⟩
  rfl
def t_read_packet (K : PySem.W.Frag) (A : Ads) : TS :=
 tSeq (tIfS (tOr (tTest (tOp (rGt) (tCB (rLenS K) (tCons (tVar 0) (tNil))) (tC (.int (40))))) (tNot (tB (tCB (rAll K) (tCons (tLc (iList K (tVar 0)) (gName 2) (tYes) (tCall (sp_is_octet K A) [] E0 (tCons (tVar 2) (tNil))) [2]) (tNil))))))
 (tRet (tLst (tCons (tC (.int (-1))) (tNil))))
 (tNext))
 (tSeq (tAsg (tCall (sp_packet_of K A) [] E0 (tCons (tVar 0) (tNil))) (gName 1))
 (tSeq (tIfS (tTest (tOp (rIsN) (tVar 1) (tC .non)))
 (tRet (tLst (tCons (tC (.int 0)) (tCons (tC (.int 0)) (tNil)))))
 (tNext))
 (tRet (tOp rCat (tLst (tCons (tC (.int 0)) (tCons (tC (.int 1)) (tCons (tFld K (tVar 1) "kind") (tCons (tFld K (tVar 1) "sender") (tCons (tFld K (tVar 1) "receiver") (tCons (tFld K (tVar 1) "number") (tNil)))))))) (tFld K (tVar 1) "payload")))))
theorem pure_read_packet (T : Txt K mg A) (vs : List V) (H : Hp) (Q : VK) (E : XK) (h : sp_read_packet K A vs H Q E) : t_read_packet K A { nx := fun _ H' => Q .non H', rt := Q } (start ["octets", "packet", "octet"] vs) H := by
  obtain ⟨ns, pa, rfl, hpa, hz, kq⟩ := h
  have la : (ansV ns).length = ns.length := List.length_map ..
  have eb : (decide ((40 : Int) < (ns.length : Int)) || !(ns.map fun n => decide ((0 : Int) ≤ n) && decide (n ≤ 255)).all id) = !Vbxlac.areBytes ns 40 := by
    unfold Vbxlac.areBytes Vbxlac.inRange
    rw [List.all_map, Bool.not_and]
    congr 1
    by_cases h : ns.length ≤ 40
    · rw [decide_eq_true h, decide_eq_false (by omega)] <;> rfl
    · rw [decide_eq_false h, decide_eq_true (by omega)] <;> rfl
  refine q_when (b := !Vbxlac.areBytes ns 40) ?_ (fun hb H1 e1 => ?_) (fun hb H1 e1 => ?_)
  · rw [← eb]
    refine et_or (et_test (ev_op (ev_is (ev_len (ev_var rfl) (sq_of hpa)) (by rw [la])) ev_c rv_I0)) fun _ => et_not (et_B ?_)
    refine ev_allN (el_map (ev_var rfl) (sq_of hpa) (by rw [la]; omega) (fun _ => rfl) (by rw [la]; simp) fun i x y H1 e1 hx hy => ?_)
    obtain ⟨b, hb, rfl⟩ := int_at hx
    have hy' : y = .bl (decide ((0 : Int) ≤ b) && decide (b ≤ 255)) := by
      rw [List.getElem?_map, List.getElem?_map, hb] at hy
      exact (Option.some.inj hy).symm
    rw [hy']
    exact ev_call (ea_cons (ev_var rfl) ea_nil) sv_is_octet
  · have : readAns ns = [-1] := if_pos (by simpa using hb)
    rw [this] at kq
    exact s_retL (xs := ansV [-1]) (el_one ev_c) fun q H2 nq e2 h2 => kq.go e1 nq e2 h2
  have hb' : Vbxlac.areBytes ns 40 = true := by simpa using hb
  have ra : readAns ns = 0 :: (match Vbxlac.readPacket (Vbxlac.toBytes ns) with
    | none => [0]
    | some p => 1 :: Vbxlac.toInt p.kind :: (Vbxlac.packetResult p ++ Vbxlac.bytesResult p.payload)) := if_neg (by rw [hb']; decide)
  have hm : H1 pa = some (.lst (byV (Vbxlac.toBytes ns))) := by rw [bytes_back hb']; exact e1 _ _ hpa
  obtain ⟨_, hby⟩ := areBytes_iff.mp hb'
  have lt : ∀ x ∈ Vbxlac.toBytes ns, x < 256 := fun x hx => by
    unfold Vbxlac.toBytes at hx
    obtain ⟨y, hy, rfl⟩ := List.mem_map.mp hx
    have := hby y hy
    omega
  refine q_packet (ev_var rfl) (sq_of hm) lt (by unfold Vbxlac.toBytes; rw [List.length_map]; exact hz) (fun hr H2 e2 => ?_) (fun p hr q pl H2 nq np e2 hp => ?_)
  · rw [hr] at ra
    rw [ra] at kq
    refine q_when (b := true) (et_is (et_test (ev_op (ev_var (v := .non) rfl) ev_c rv_isN)) (by simp)) (fun _ H3 e3 => ?_) (fun z => by cases z)
    exact s_retL (xs := ansV [0, 0]) (el_lst (ea_cons ev_c (ea_cons ev_c ea_nil)) (by show 2 ≤ 100000; decide)) fun q H4 nq e4 h4 => kq.go (e1.trans (e2.trans e3)) nq e4 h4
  · rw [hr] at ra
    rw [ra] at kq
    refine q_when (b := false) (et_is (et_test (ev_op (ev_var (v := .ref q) rfl) ev_c rv_isN)) (by simp)) (fun z => by cases z) (fun _ H3 e3 => ?_)
    have hp3 := hp.ex e3
    obtain ⟨hpk, _⟩ := readPacket_some hr
    obtain ⟨_, _, _, _, a7⟩ := isPacket_iff.mp hpk
    have lp16 : p.payload.length ≤ 16 := by
      rcases a7 with ⟨_, _, b3, _⟩ | ⟨_, b2⟩
      · exact b3
      · rw [b2]
        exact Nat.zero_le _
    refine s_retL (xs := ansV [0, 1, Vbxlac.toInt p.kind, Vbxlac.toInt p.sender, Vbxlac.toInt p.receiver, Vbxlac.toInt p.number] ++ byV p.payload) (el_cat (el_lst (ea_cons ev_c (ea_cons ev_c (ea_cons (pk_kind T hp3 (ev_var rfl)) (ea_cons (pk_sender T hp3 (ev_var rfl)) (ea_cons (pk_receiver T hp3 (ev_var rfl)) (ea_cons (pk_number T hp3 (ev_var rfl)) ea_nil)))))) (by show 6 ≤ 100000; decide)) (fun H4 e4 => pk_payload T (hp3.ex e4) (ev_var rfl)) hp3.2 ?_) fun o H4 no e4 h4 => ?_
    · rw [byV_len]
      show 6 + _ ≤ _
      omega
    · refine kq.go (e1.trans (e2.trans e3)) no e4 ?_
      rw [h4, ← ansV_bytes] <;> rfl
end Sur
namespace Sur
open PySem PySem.Spec PyProof.Rows L2 Evl
variable {P : Program} {w : World} {K : PySem.W.Frag} {mg : Str → Option Value} {base : Heap} {A : Ads} {W : Addr → Prop}
/-! ## The exchange -/
/-- what stands aside of a state may be written -/
theorem NetAt.aside {H : Hp} {G : NG} {s : Vbxlac.State} {t : Addr} {x : HO} (h : NetAt A H G s) (o : Out G s t) (z : ¬ Pz G s t) : NetAt A (upd H t x) G s :=
  ⟨fun r hr => by rw [upd_ne (o r hr)]; exact h.here r hr, h.inj, fun i k c hi hc => (h.pay i k c hi hc).ex fun a ha u hu => (upd_ne (fun e => z ⟨i, k, c, hi, hc, by rw [← e]; exact ha⟩)).trans hu, h.out⟩
theorem NetAt.notPz {H : Hp} {G : NG} {s : Vbxlac.State} (h : NetAt A H G s) {t : Addr} (nt : H t = none) : ¬ Pz G s t := fun ⟨i, k, c, hi, hc, ha⟩ => by
  obtain ⟨u, hu⟩ := pays_known (h.pay i k c hi hc) ha
  rw [nt] at hu
  cases hu
section
variable {H H1 H2 H' : Hp} {G G1 G2 G' : NG} {s s1 s2 s' : Vbxlac.State}
theorem Step.weak {W' : Addr → Prop} (h : Step A W' H G s H' G' s') (w : ∀ a, W' a → W a) : Step A W H G s H' G' s' :=
  ⟨h.1, h.2.1, h.2.2.1, h.2.2.2.1, fun a z => (h.2.2.2.2 a z).imp id (w a)⟩
theorem Step.aside {t : Addr} {x : HO} (h : Step A W H G s H' G' s') (nt : H t = none) (o : Out G' s' t) (z : ¬ Pz G' s' t) : Step A W H G s (upd H' t x) G' s' :=
  ⟨h.1.aside o z, h.2.1, fun b u hb hob => ⟨by rw [upd_ne (ne_of_none hb nt)]; exact (h.2.2.1 b u hb hob).1, (h.2.2.1 b u hb hob).2⟩, fun b u hb => let ⟨v, hv⟩ := h.2.2.2.1 b u hb; ⟨v, by rw [upd_ne (ne_of_none hb nt)]; exact hv⟩, h.2.2.2.2⟩
theorem KeepS.trans (a : KeepS G G1) (b : KeepS G1 G2) : KeepS G G2 := ⟨b.1.trans a.1, fun i => (b.2 i).trans (a.2 i)⟩
theorem KeepS.list (kp : KeepS G G') (h : NetAt A H' G' s') (hn : s'.sites.length = s.sites.length) : H' (G.ad .sitesL) = some (.lst ((List.range s.sites.length).map fun i => .ref (G.ad (.site i)))) := by
  have := h.here .sitesL trivial
  rw [kp.1] at this
  rw [this]
  show some (HO.lst ((List.range s'.sites.length).map fun i => .ref (G'.ad (.site i)))) = _
  rw [hn]
  simp only [kp.2]
end
def sp_sync_all (K : PySem.W.Frag) (A : Ads) : Sp := fun vs H Q _ => ∃ (W : Addr → Prop) (G : NG) (s : Vbxlac.State), vs = [.ref (G.ad .net)] ∧ NetAt A H G s ∧ Sites s ∧ ∀ G' H', Step A W H G s H' G' (Vbxlac.syncAll s) → Q .non H'
theorem len_sync_all : ∀ vs H Q E, sp_sync_all K A vs H Q E → vs.length = (["network"] : List Str).length := by
  rintro vs H Q E ⟨W, G, s, rfl, _⟩
  rfl
def t_sync_all (K : PySem.W.Frag) (A : Ads) : TS :=
 tFor (iList K (tFld K (tVar 0) "sites")) (gName 1)
 (tDrop (tMeth A.c_Site "sync" (sp_Site_sync K A) [] E0 (tVar 1) tNil))
theorem pure_sync_all (T : Txt K mg A) (vs : List V) (H : Hp) (Q : VK) (E : XK) (h : sp_sync_all K A vs H Q E) : t_sync_all K A { nx := fun _ H' => Q .non H', rt := Q } (start ["network", "site"] vs) H := by
  obtain ⟨W, G, s, rfl, hN, hS, k⟩ := h
  refine s_forLn (ev_sites T hN (ev_var rfl)) (sq_sites hN) (fun i σ' H' => i ≤ s.sites.length ∧ ∃ G' x, Step A W H G s H' G' (syncN s i) ∧ KeepS G G' ∧ Sites (syncN s i) ∧ σ' = [some (.ref (G.ad .net)), x])
    (fun H1 e1 => ⟨Nat.zero_le _, G, none, by rw [syncN_zero]; exact Step.ofEx hN e1, ⟨rfl, fun _ => rfl⟩, by rw [syncN_zero]; exact hS, rfl⟩) (fun i σ' H' _ ⟨_, G', x, st, kp, _, _⟩ => sq_of (kp.list st.1 (syncN_len s i))) ?_ ?_
  · rintro i v σ' H' hi ⟨hle, G', x, st, kp, hSi, rfl⟩
    obtain ⟨hil, rfl⟩ := at_range hi
    have hsite := st.1.here (.site i) (by show i < (syncN s i).sites.length; rw [syncN_len]; exact hil)
    rw [kp.2] at hsite
    refine s_tDrop ⟨_, rfl, G.ad (.site i), _, _, rfl, hsite, fl_Site_m_sync, W, G', syncN s i, i, by rw [kp.2] <;> rfl, st.1, hSi, by rw [syncN_len]; exact hil, fun q G2 H2 st2 kp2 nq oq hq => ?_⟩
    rw [syncN_next] at st2
    exact ⟨hil, G2, _, st.trans st2, kp.trans kp2, by rw [← syncN_next]; exact (hSi.sync (i + 1)).1, rfl⟩
  · rintro σ' H' ⟨_, G', x, st, _, _, _⟩
    rw [List.length_map, List.length_range, syncN_all (Nat.le_refl _)] at st
    exact k G' H' st
/-! ### all packets delivered -/
theorem delAt_step {s : Vbxlac.State} {i : Nat} (hi : i < s.wires.length) : wireOf (delAt s i).1 0 = wireOf s i ∧
    delAt s (i + 1) = ((Vbxlac.receive (popW (delAt s i).1 0) (wireOf s i).bytes).1, (delAt s i).2.1 + (if (Vbxlac.receive (popW (delAt s i).1 0) (wireOf s i).bytes).2.1 = 1 then 1 else 0), (delAt s i).2.2 + (if (Vbxlac.receive (popW (delAt s i).1 0) (wireOf s i).bytes).2.1 = 4 then 1 else 0)) := by
  have hw := wire_at hi
  obtain ⟨h1, h2⟩ := delAt_pop hw
  refine ⟨?_, ?_⟩
  · show ((delAt s i).1.wires[0]?).getD _ = _
    rw [h1] <;> rfl
  · rw [delAt_next hw, h2] <;> rfl
theorem count_snoc (os : List Int) (o : Nat) (k : Nat) : (os ++ [(o : Int)]).count (k : Int) = os.count (k : Int) + (if o = k then 1 else 0) := by
  rw [List.count_append, List.count_singleton]
  by_cases h : o = k
  · subst h; simp
  · rw [if_neg h, if_neg (by simp; omega)]
def sp_deliver_all (K : PySem.W.Frag) (A : Ads) : Sp := fun vs H Q _ => ∃ (W : Addr → Prop) (G : NG) (s : Vbxlac.State), vs = [.ref (G.ad .net)] ∧ NetAt A H G s ∧ Sites s ∧ (∀ w ∈ s.wires, WireOk s w) ∧ s.wires.length ≤ 50000 ∧ (∀ a, H a = none → W a) ∧
  ∀ q G' H' os, Step A W H G s H' G' (Vbxlac.deliverAll s).1 → H q = none → Out G' (Vbxlac.deliverAll s).1 q → ¬ Pz G' (Vbxlac.deliverAll s).1 q → H' q = some (.lst (ansV os)) → os.length = s.wires.length → os.count 1 = (Vbxlac.deliverAll s).2.1 → os.count 4 = (Vbxlac.deliverAll s).2.2 → Q (.ref q) H'
theorem len_deliver_all : ∀ vs H Q E, sp_deliver_all K A vs H Q E → vs.length = (["network"] : List Str).length := by
  rintro vs H Q E ⟨W, G, s, rfl, _⟩
  rfl
def t_deliver_all (K : PySem.W.Frag) (A : Ads) : TS :=
 tSeq (tAsg (tLst (tNil)) (gName 1))
 (tSeq (tWhile (tTru K (tFld K (tVar 0) "wires"))
 (tDrop (tBM K "list" rAppend (tVar 1) (tCons (tOp (rIxL K) (tCall (sp_deliver_packet K A) [] E0 (tCons (tVar 0) (tCons (tC (.int 0)) (tNil)))) (tC (.int 0))) (tNil)))))
 (tRet (tVar 1)))
structure DelInv (A : Ads) (W : Addr → Prop) (H : Hp) (G : NG) (s : Vbxlac.State) (q : Addr) (i : Nat) (G' : NG) (os : List Int) (H' : Hp) : Prop where
  le : i ≤ s.wires.length
  st : Step A W H G s H' G' (delAt s i).1
  oq : Out G' (delAt s i).1 q
  zq : ¬ Pz G' (delAt s i).1 q
  hq : H' q = some (.lst (ansV os))
  len : os.length = i
  c1 : os.count 1 = (delAt s i).2.1
  c4 : os.count 4 = (delAt s i).2.2
  sites : Sites (delAt s i).1
  later : Later s (delAt s i).1
theorem ansV_snoc (os : List Int) (o : Int) : ansV os ++ [.int o] = ansV (os ++ [o]) := by
  unfold ansV
  rw [List.map_append] <;> rfl
theorem pure_deliver_all (T : Txt K mg A) (vs : List V) (H : Hp) (Q : VK) (E : XK) (h : sp_deliver_all K A vs H Q E) : t_deliver_all K A { nx := fun _ H' => Q .non H', rt := Q } (start ["network", "outcomes"] vs) H := by
  obtain ⟨W, G, s, rfl, hN, hS, hw, hz, hW, k⟩ := h
  refine q_asgL (el_lst ea_nil (by decide)) fun q H1 nq e1 h1 => ?_
  refine q_while (fun m σ' H' => ∃ i G' os, m = s.wires.length - i ∧ DelInv A (fun x => W x ∧ x ≠ q) H G s q i G' os H' ∧ σ' = [some (.ref (G.ad .net)), some (.ref q)]) s.wires.length
    ⟨0, G, [], rfl, ⟨Nat.zero_le _, by rw [delAt_zero]; exact Step.ofEx hN e1, by rw [delAt_zero]; exact hN.fresh nq, by rw [delAt_zero]; exact hN.notPz nq, h1, rfl, by rw [delAt_zero] <;> rfl, by rw [delAt_zero] <;> rfl, by rw [delAt_zero]; exact hS, by rw [delAt_zero]; exact Later.refl s⟩, rfl⟩ ?_
  rintro m σ' H' ⟨i, G', os, rfl, I, rfl⟩
  have net : G'.ad .net = G.ad .net := I.st.2.1
  have ew : (delAt s i).1.wires = s.wires.drop i := delAt_wires s i
  refine ⟨!(s.wires.drop i).isEmpty, et_is (et_tru (ev_wires T I.st.1 (by rw [net]; exact ev_var rfl)) (sq_wires I.st.1)) (by rw [isEmpty_range, ew]), fun hb H2 e2 => ?_, fun hb H2 e2 => ?_⟩
  · have hi : i < s.wires.length := by
      cases z : s.wires.drop i with
      | nil => rw [z] at hb; cases hb
      | cons x r =>
        have := congrArg List.length z
        rw [List.length_drop, List.length_cons] at this
        omega
    obtain ⟨w0, nx⟩ := delAt_step hi
    have okw : WireOk s (wireOf s i) := hw _ (List.mem_of_getElem? (wire_at hi))
    have st2 := I.st.right e2
    have hq2 := e2 _ _ I.hq
    have lt : (delAt s i).1.wires.length = s.wires.length - i := by rw [ew, List.length_drop]
    refine ⟨fun σ2 H3 => ∃ G2 os2, DelInv A (fun x => W x ∧ x ≠ q) H G s q (i + 1) G2 os2 H3 ∧ σ2 = [some (.ref (G.ad .net)), some (.ref q)], fun σ2 H3 ⟨G2, os2, I2, e⟩ => ⟨s.wires.length - (i + 1), by omega, i + 1, G2, os2, rfl, I2, e⟩, ?_⟩
    refine s_tDrop ⟨_, rfl, Or.inl ⟨rfl, _, sq_of hq2⟩, ?_⟩
    refine ⟨_, rfl, (fun x => W x ∧ x ≠ q), G', (delAt s i).1, 0, by rw [net] <;> rfl, st2.1, I.sites, by omega, by omega, by rw [w0]; exact okw.ok.later I.later, fun a ha => ⟨hW a (st2.fresh ha), fun z => by rw [z, hq2] at ha; cases ha⟩, fun r G3 H3 st3 nr or3 hr => ?_⟩
    rw [w0] at st3 or3 hr
    have hq3 := st3.2.2.1 q _ hq2 I.oq
    have zq3 : ¬ Pz G3 (Vbxlac.receive (popW (delAt s i).1 0) (wireOf s i).bytes).1 q := fun z => (st3.2.2.2.2 q z).elim I.zq fun y => y.2 rfl
    refine ⟨r, _, 0, _, rfl, rfl, sq_of hr, atI_nat (j := 0) rfl, q, _, _, rfl, rfl, hq3.1, ?_, G3, os ++ [((Vbxlac.receive (popW (delAt s i).1 0) (wireOf s i).bytes).2.1 : Int)], ?_, rfl⟩
    · unfold ansV
      rw [List.length_map, I.len]
      exact Nat.lt_of_lt_of_le hi (Nat.le_trans hz (by decide))
    · have e5 : (delAt s (i + 1)).1 = (Vbxlac.receive (popW (delAt s i).1 0) (wireOf s i).bytes).1 := by rw [nx]
      have sr := (I.sites.of_sites (t := popW (delAt s i).1 0) rfl).receive (b := (wireOf s i).bytes) ((okw.ok.later I.later).later (later_of_sites rfl))
      refine ⟨hi, ?_, ?_, ?_, ?_, ?_, ?_, ?_, ?_, ?_⟩
      · rw [e5]
        exact (st2.trans st3).aside nq hq3.2 zq3
      · rw [e5]; exact hq3.2
      · rw [e5]; exact zq3
      · rw [upd_same, ← ansV_snoc] <;> rfl
      · rw [List.length_append, I.len] <;> rfl
      · have := count_snoc os (Vbxlac.receive (popW (delAt s i).1 0) (wireOf s i).bytes).2.1 1
        rw [nx]
        show _ = (delAt s i).2.1 + _
        rw [← I.c1]
        exact this
      · have := count_snoc os (Vbxlac.receive (popW (delAt s i).1 0) (wireOf s i).bytes).2.1 4
        rw [nx]
        show _ = (delAt s i).2.2 + _
        rw [← I.c4]
        exact this
      · rw [e5]; exact sr.1
      · rw [e5]; exact I.later.trans ((later_of_sites (s := (delAt s i).1) (t := popW (delAt s i).1 0) rfl).trans sr.2.1)
  · have hi : i = s.wires.length := by
      have h0 : s.wires.drop i = [] := by simpa using hb
      have := congrArg List.length h0
      rw [List.length_drop, List.length_nil] at this
      have := I.le
      omega
    subst hi
    have st := I.st
    have oq := I.oq
    have zq := I.zq
    have c1 := I.c1
    have c4 := I.c4
    rw [delAt_all] at st oq zq c1 c4
    refine s_ret (ev_var rfl) fun H3 e3 => k q G' H3 os ((st.weak fun a z => z.1).right (e2.trans e3)) nq oq zq ((e2.trans e3) _ _ I.hq) I.len c1 c4
/-! ### the whole exchange -/
theorem ev_cnt {σ : L2.St} {H : Hp} {ta : TE} {p : Addr} {ns : List Int} {k : Int} (h : Ev ta σ H (.ref p)) (hs : SqL K H p (ns.map V.int)) : Ev (tBM K "list" (rCntI K) ta (tCons (tC (.int k)) tNil)) σ H (.int (ns.count k : Nat)) := fun H1 e Q q =>
  h H1 e _ fun H2 e2 => ⟨Or.inl ⟨rfl, _, ex_l (e.trans e2) hs⟩, p, ns, k, rfl, rfl, ex_l (e.trans e2) hs, q H2 e2⟩
/-- behind i of the pairs -/
def exAt (s : Vbxlac.State) (i : Nat) : Vbxlac.State × Nat × Nat := ((Vbxlac.sitePairs s).take i).foldl Vbxlac.exchangePair (Vbxlac.syncAll (Vbxlac.deliverAll s).1, (Vbxlac.deliverAll s).2)
theorem exAt_next {s : Vbxlac.State} {i a b : Nat} (h : (Vbxlac.sitePairs s)[i]? = some (a, b)) : exAt s (i + 1) = Vbxlac.exchangePair (exAt s i) (a, b) := by
  unfold exAt
  rw [take_snoc h, List.foldl_append] <;> rfl
theorem exAt_all (s : Vbxlac.State) : Vbxlac.exchange s = (Vbxlac.syncAll (exAt s (Vbxlac.sitePairs s).length).1, (exAt s (Vbxlac.sitePairs s).length).2) := by
  unfold exAt
  rw [List.take_length] <;> rfl
def sp_perform_exchange (K : PySem.W.Frag) (A : Ads) : Sp := fun vs H Q _ => ∃ (W : Addr → Prop) (G : NG) (s : Vbxlac.State), vs = [.ref (G.ad .net)] ∧ NetAt A H G s ∧ Sites s ∧ (∀ w ∈ s.wires, WireOk s w) ∧ s.wires.length ≤ 20000 ∧ (∀ a, H a = none → W a) ∧
  RetStep A W H G s (Vbxlac.exchange s).1 [((Vbxlac.exchange s).2.1 : Int), ((Vbxlac.exchange s).2.2 : Int)] Q
theorem len_perform_exchange : ∀ vs H Q E, sp_perform_exchange K A vs H Q E → vs.length = (["network"] : List Str).length := by
  rintro vs H Q E ⟨W, G, s, rfl, _⟩
  rfl
def t_perform_exchange (K : PySem.W.Frag) (A : Ads) : TS :=
 tSeq (tAsg (tCall (sp_deliver_all K A) [] E0 (tCons (tVar 0) (tNil))) (gName 1))
 (tSeq (tDrop (tCall (sp_sync_all K A) [] E0 (tCons (tVar 0) (tNil))))
 (tSeq (tFor (iList K (tMeth A.c_Network "pairs" (sp_Network_pairs K A) [] E0 (tVar 0) tNil)) (gTup K 2 (gCons (gName 2) (gCons (gName 3) (gNil))))
 (tSeq (tDrop (tCall (sp_transmit_durable K A) [] E0 (tCons (tVar 0) (tCons (tVar 2) (tCons (tVar 3) (tNil))))))
 (tDrop (tBM K "list" rExtend (tVar 1) (tCons (tCall (sp_deliver_all K A) [] E0 (tCons (tVar 0) (tNil))) (tNil))))))
 (tSeq (tDrop (tCall (sp_sync_all K A) [] E0 (tCons (tVar 0) (tNil))))
 (tRet (tLst (tCons (tBM K "list" (rCntI K) (tVar 1) (tCons (tC (.int (1))) (tNil))) (tCons (tBM K "list" (rCntI K) (tVar 1) (tCons (tC (.int (4))) (tNil))) (tNil))))))))
structure ExInv (A : Ads) (W : Addr → Prop) (H : Hp) (G : NG) (s : Vbxlac.State) (q F : Addr) (ts : List Addr) (H3 : Hp) (i : Nat) (G' : NG) (os : List Int) (H' : Hp) : Prop where
  st : Step A W H G s H' G' (exAt s i).1
  oq : Out G' (exAt s i).1 q
  zq : ¬ Pz G' (exAt s i).1 q
  hq : H' q = some (.lst (ansV os))
  len : os.length ≤ 20000 + 61 * i
  c1 : os.count 1 = (exAt s i).2.1
  c4 : os.count 4 = (exAt s i).2.2
  sites : Sites (exAt s i).1
  none : (exAt s i).1.wires = []
  n : (exAt s i).1.sites.length = s.sites.length
  stand : ∀ b o, b = F ∨ b ∈ ts → H3 b = some o → H' b = some o ∧ Out G' (exAt s i).1 b
theorem pure_perform_exchange (T : Txt K mg A) (vs : List V) (H : Hp) (Q : VK) (E : XK) (h : sp_perform_exchange K A vs H Q E) : t_perform_exchange K A { nx := fun _ H' => Q .non H', rt := Q } (start ["network", "outcomes", "sender", "receiver"] vs) H := by
  obtain ⟨W, G, s, rfl, hN, hS, hw, hz, hW, k⟩ := h
  obtain ⟨d1, d2, d3, d4, _, _⟩ := deliverAll_ok hS hw
  obtain ⟨b1, b2⟩ := d1.syncAll
  -- outcomes = deliver_all(network)
  refine q_tAsg ⟨_, rfl, W, G, s, rfl, hN, hS, hw, by omega, hW, fun q G1 H1 os1 st1 nq oq1 zq1 hq1 l1 c1 c4 => ?_⟩
  -- sync_all(network)
  refine q_tDrop ⟨_, rfl, (fun x => W x ∧ x ≠ q), G1, (Vbxlac.deliverAll s).1, by rw [st1.2.1] <;> rfl, st1.1, d1, fun G2 H2 st2 => ?_⟩
  have n2 : G2.ad .net = G.ad .net := st2.2.1.trans st1.2.1
  have hq2 := st2.2.2.1 q _ hq1 oq1
  have zq2 : ¬ Pz G2 (Vbxlac.syncAll (Vbxlac.deliverAll s).1) q := fun z => (st2.2.2.2.2 q z).elim zq1 fun y => y.2 rfl
  have st02 : Step A W H G s H2 G2 (Vbxlac.syncAll (Vbxlac.deliverAll s).1) := st1.trans (st2.weak fun a z => z.1)
  have sl2 : (Vbxlac.syncAll (Vbxlac.deliverAll s).1).sites.length = s.sites.length := b2.n.trans d2.n
  have hnet : H2 (G.ad .net) = some (con A G2 (Vbxlac.syncAll (Vbxlac.deliverAll s).1) .net) := by rw [← n2]; exact st2.1.here .net trivial
  -- for sender, receiver in network.pairs()
  refine ⟨_, rfl, G.ad .net, _, _, rfl, hnet, fl_Network_m_pairs, G2, Vbxlac.syncAll (Vbxlac.deliverAll s).1, by rw [n2] <;> rfl, st2.1, b1.few, fun F ts H3 hp => ⟨F, rfl, ⟨_, sq_of hp.lst⟩, ?_⟩⟩
  rw [sitePairs_len sl2] at hp
  have qF : ∀ b, b = F ∨ b ∈ ts → b ≠ q := fun b hb z => by
    have : H2 b = none := hb.elim (fun e => by rw [e]; exact hp.nF) (hp.nT b)
    rw [z, hq2.1] at this
    cases this
  refine for_list (fun i σ' H' => ∃ G' os x2 x3, ExInv A W H G s q F ts H3 i G' os H' ∧ σ' = [some (.ref (G.ad .net)), some (.ref q), x2, x3])
    ⟨G2, os1, none, none, ⟨st02.right hp.ex, hq2.2, zq2, hp.ex _ _ hq2.1, by omega, c1, c4, b1, d3, sl2, fun b o hb ho => ⟨ho, st2.1.fresh (hb.elim (fun e => by rw [e]; exact hp.nF) (hp.nT b))⟩⟩, rfl⟩
    (fun i σ' H' _ ⟨G', os, x2, x3, I, _⟩ => sq_of (I.stand F _ (.inl rfl) hp.lst).1) ?_ ?_
  · rintro i v σ' H' hi ⟨G', os, x2, x3, I, rfl⟩
    obtain ⟨t, p, ht, hpi, rfl, htm⟩ := hp.items hi
    obtain ⟨a, b⟩ := p
    have htup := (I.stand t _ (.inr htm) (hp.tup i t _ ht hpi)).1
    refine ⟨t, _, rfl, st_of htup, rfl, _, _, rfl, _, _, rfl, rfl, ?_⟩
    obtain ⟨a1, a2, b1', b2', ab⟩ := sitePairs_mem (List.mem_of_getElem? hpi)
    simp only at a1 a2 b1' b2' ab
    have net : G'.ad .net = G.ad .net := I.st.2.1
    have il : i < 16 := by
      have h1 := (List.getElem?_eq_some_iff.mp hpi).1
      rw [sitePairs_to] at h1
      have h2 := pairsTo_len s.sites.length s.sites.length
      have h3 : s.sites.length * s.sites.length ≤ 4 * 4 := Nat.mul_le_mul hS.few hS.few
      omega
    -- transmit_durable(network, sender, receiver)
    refine q_tDrop ⟨_, rfl, _, rfl, _, rfl, (fun x => W x ∧ x ≠ q), G', (exAt s i).1, a, b, by rw [net] <;> rfl, I.st.1, I.sites, a1, by rw [I.n]; exact a2, b1', by rw [I.n]; exact b2', by rw [I.none]; exact Nat.zero_le _, fun r G4 H4 st4 nr or4 hr4 => ?_⟩
    obtain ⟨w4, l4⟩ := transmit_wires I.sites a1 (by rw [I.n]; exact a2) b1' (by rw [I.n]; exact b2') ab (by rw [I.none]; intro w z; cases z)
    rw [I.none] at l4
    have hq4 := st4.2.2.1 q _ I.hq I.oq
    have zq4 : ¬ Pz G4 (Vbxlac.transmit (exAt s i).1 a b) q := fun z => (st4.2.2.2.2 q z).elim I.zq fun y => y.2 rfl
    have st04 := I.st.trans (st4.weak fun a z => z.1)
    have net4 : G4.ad .net = G.ad .net := st04.2.1
    -- outcomes.extend(deliver_all(network))
    refine s_tDrop ⟨_, rfl, Or.inl ⟨rfl, _, sq_of hq4.1⟩, ?_⟩
    refine ⟨_, rfl, (fun x => W x ∧ x ≠ q), G4, Vbxlac.transmit (exAt s i).1 a b, by rw [net4] <;> rfl, st4.1, I.sites.of_sites rfl, w4, Nat.le_trans l4 (by decide), fun x hx => ⟨hW x (st04.fresh hx), fun z => by rw [z, hq4.1] at hx; cases hx⟩, fun r5 G5 H5 os5 st5 nr5 or5 zr5 hr5 l5 k1 k4 => ?_⟩
    have hq5 := st5.2.2.1 q _ hq4.1 hq4.2
    have zq5 : ¬ Pz G5 (Vbxlac.deliverAll (Vbxlac.transmit (exAt s i).1 a b)).1 q := fun z => (st5.2.2.2.2 q z).elim zq4 fun y => y.2 rfl
    have st05 := st04.trans (st5.weak fun a z => z.1)
    have ok := exchangePair_ok I.sites I.none a1 (by rw [I.n]; exact a2) b1' (by rw [I.n]; exact b2') ab
    have en := exAt_next hpi
    have en1 : (exAt s (i + 1)).1 = (Vbxlac.deliverAll (Vbxlac.transmit (exAt s i).1 a b)).1 := by rw [en] <;> rfl
    have l5' : os5.length ≤ 61 := by
      rw [l5]
      exact l4
    have lo := I.len
    refine ⟨q, r5, _, _, rfl, rfl, hq5.1, hr5, ?_, G5, os ++ os5, _, _, ⟨?_, ?_, ?_, ?_, ?_, ?_, ?_, ?_, ?_, ?_, ?_⟩, rfl⟩
    · unfold ansV
      rw [List.length_map, List.length_map]
      exact Nat.le_trans (show _ ≤ 30000 by omega) (by decide)
    · rw [en1]
      exact st05.aside nq hq5.2 zq5
    · rw [en1]; exact hq5.2
    · rw [en1]; exact zq5
    · rw [upd_same]
      unfold ansV
      rw [List.map_append]
    · rw [List.length_append]
      omega
    · rw [List.count_append, I.c1, k1, en] <;> rfl
    · rw [List.count_append, I.c4, k4, en] <;> rfl
    · rw [en]; exact ok.1
    · rw [en]; exact ok.2.2.1
    · rw [en]; exact ok.2.1.n.trans I.n
    · intro x o hx ho
      obtain ⟨s1, s2⟩ := I.stand x o hx ho
      obtain ⟨s3, s4⟩ := st4.2.2.1 x o s1 s2
      obtain ⟨s5, s6⟩ := st5.2.2.1 x o s3 s4
      exact ⟨(upd_ne (qF x hx)).trans s5, by rw [en1]; exact s6⟩
  · rintro σ' H' ⟨G', os, x2, x3, I, rfl⟩
    rw [List.length_map, hp.len] at I
    show tSeq (tDrop (tCall (sp_sync_all K A) [] E0 (tCons (tVar 0) tNil))) (tRet (tLst (tCons (tBM K "list" (rCntI K) (tVar 1) (tCons (tC (.int (1))) tNil)) (tCons (tBM K "list" (rCntI K) (tVar 1) (tCons (tC (.int (4))) tNil)) tNil)))) { nx := fun _ H' => Q .non H', rt := Q } [some (.ref (G.ad .net)), some (.ref q), x2, x3] H'
    refine q_tDrop ⟨_, rfl, (fun x => W x ∧ x ≠ q), G', (exAt s (Vbxlac.sitePairs s).length).1, by rw [I.st.2.1] <;> rfl, I.st.1, I.sites, fun G6 H6 st6 => ?_⟩
    have hq6 := st6.2.2.1 q _ I.hq I.oq
    have st06 := I.st.trans (st6.weak fun a z => z.1)
    have ee := exAt_all s
    have e1 : (Vbxlac.exchange s).1 = Vbxlac.syncAll (exAt s (Vbxlac.sitePairs s).length).1 := by rw [ee]
    have e2 : (Vbxlac.exchange s).2 = (exAt s (Vbxlac.sitePairs s).length).2 := by rw [ee]
    refine s_retL (xs := ansV [((Vbxlac.exchange s).2.1 : Int), ((Vbxlac.exchange s).2.2 : Int)]) (el_lst (ea_cons (ev_is (ev_cnt (ev_var rfl) (sq_of hq6.1)) ?_) (ea_cons (ev_is (ev_cnt (ev_var rfl) (sq_of hq6.1)) ?_) ea_nil)) (by show 2 ≤ 100000; decide)) fun r H7 nr e7 h7 => ?_
    · rw [I.c1, e2]
    · rw [I.c4, e2]
    · rw [e1] at k
      exact k r G6 H7 (st06.right e7) (st06.fresh nr) (st06.1.fresh nr) h7
def sp_exchange (K : PySem.W.Frag) (A : Ads) : Sp := SpC A [] .exchange
theorem len_exchange : ∀ vs H Q E, sp_exchange K A vs H Q E → vs.length = (["network"] : List Str).length := by
  rintro vs H Q E ⟨W, G, s, k, rfl, _⟩
  rfl
def t_exchange (K : PySem.W.Frag) (A : Ads) : TS :=
 tSeq (tAsg (tCall (sp_sites_refusal K A) [] E0 (tCons (tVar 0) (tCons (tLst (tNil)) (tCons (tC (.bl true)) (tNil))))) (gName 1))
 (tSeq (tIfS (tTest (tOp (rNe) (tVar 1) (tC (.int 0))))
 (tRet (tLst (tCons (tVar 1) (tNil))))
 (tNext))
 (tRet (tOp rCat (tLst (tCons (tC (.int 0)) (tNil))) (tCall (sp_perform_exchange K A) [] E0 (tCons (tVar 0) (tNil))))))
theorem pure_exchange (T : Txt K mg A) (vs : List V) (H : Hp) (Q : VK) (E : XK) (h : sp_exchange K A vs H Q E) : t_exchange K A { nx := fun _ H' => Q .non H', rt := Q } (start ["network", "refusal"] vs) H := by
  obtain ⟨W, G, s, k, rfl, hN, hG, hk, hW, r⟩ := h
  refine q_asg (ev_refusal0 T hN rfl) fun H1 e1 => ?_
  have hN1 := hN.ex e1
  refine q_refuse hN1 rfl (fun hc => RetStep.left (r.of (resOf_error ?_)) e1) fun hc H2 e2 => ?_
  · simp only [Vbxlac.perform, site_code0]
    exact if_neg hc
  have e12 := e1.trans e2
  have pf : Vbxlac.perform s .exchange = .ok ((Vbxlac.exchange s).1, [((Vbxlac.exchange s).2.1 : Int), ((Vbxlac.exchange s).2.2 : Int)]) := by
    simp only [Vbxlac.perform, site_code0]
    exact if_pos hc
  have hw : s.wires.length ≤ 20000 := by have := hG.room; omega
  exact ret_cat (s := s) (t := (Vbxlac.exchange s).1) (hN.ex e12) (by show 2 ≤ 1000000; decide) (fun H3 e3 Q3 r3 => ⟨_, rfl, W, G, s, rfl, hN.ex (e12.trans e3), hG.sites, hG.wires, hw, fun a ha => hW a (fresh_back (e12.trans e3) ha), r3⟩) (RetStep.left (r.of (resOf_ok pf)) e12)
end Sur
namespace Sur
open PySem PySem.Spec PyProof.Rows L2 Evl
variable {P : Program} {w : World} {K : PySem.W.Frag} {mg : Str → Option Value} {base : Heap} {A : Ads} {W : Addr → Prop}
/-! ## The calls read from the one list -/
/-- a call object -/
def CallAt (A : Ads) (H : Hp) (a an ar : Addr) (op : Int) (ns row : List Int) : Prop :=
  (∃ dx, H a = some (.ins A.c_Call dx (fl_Call (.int op) (.ref an) (.ref ar)))) ∧ H an = some (.lst (ansV ns)) ∧ H ar = some (.lst (ansV row))
theorem CallAt.ex {H H' : Hp} {a an ar : Addr} {op : Int} {ns row : List Int} (h : CallAt A H a an ar op ns row) (e : Ex H H') : CallAt A H' a an ar op ns row := by
  obtain ⟨⟨dx, h1⟩, h2, h3⟩ := h
  exact ⟨⟨dx, e _ _ h1⟩, e _ _ h2, e _ _ h3⟩
/-- it stands for the call as the document has it; N holds of its addresses -/
def CallIs (A : Ads) (N : Addr → Prop) (H : Hp) (a : Addr) (c : List (List Int)) : Prop :=
  ∃ (an ar : Addr) (op : Int) (ns row : List Int), CallAt A H a an ar op ns row ∧ N a ∧ N an ∧ N ar ∧ (c = [op :: ns] ∧ row = [] ∨ c = [op :: ns, row])
theorem CallIs.ex {N : Addr → Prop} {H H' : Hp} {a : Addr} {c : List (List Int)} (h : CallIs A N H a c) (e : Ex H H') : CallIs A N H' a c := by
  obtain ⟨an, ar, op, ns, row, h1, h2⟩ := h
  exact ⟨an, ar, op, ns, row, h1.ex e, h2⟩
theorem CallIs.weak {N N' : Addr → Prop} {H : Hp} {a : Addr} {c : List (List Int)} (h : CallIs A N H a c) (e : ∀ b, N b → N' b) : CallIs A N' H a c := by
  obtain ⟨an, ar, op, ns, row, h1, h2, h3, h4, h5⟩ := h
  exact ⟨an, ar, op, ns, row, h1, e _ h2, e _ h3, e _ h4, h5⟩
def counts : List Nat := [1, 2, 1, 1, 1, 2, 1, 1, 1, 3, 4, 3, 2, 0, 1, 4, 0, 0, 0, 0]
theorem shape_is {p : Int} {n k : Nat} (h : PyVbxlac.shape p = some (n, k)) : 0 ≤ p ∧ p ≤ 19 ∧ counts[p.toNat]? = some n ∧ k = (if p = 1 ∨ p = 15 ∨ p = 16 then 1 else 0) := by
  by_cases c0 : p = 0
  · subst c0
    cases h
    exact ⟨by decide, by decide, rfl, rfl⟩
  by_cases c1 : p = 1
  · subst c1
    cases h
    exact ⟨by decide, by decide, rfl, rfl⟩
  by_cases c2 : p = 2
  · subst c2
    cases h
    exact ⟨by decide, by decide, rfl, rfl⟩
  by_cases c3 : p = 3
  · subst c3
    cases h
    exact ⟨by decide, by decide, rfl, rfl⟩
  by_cases c4 : p = 4
  · subst c4
    cases h
    exact ⟨by decide, by decide, rfl, rfl⟩
  by_cases c5 : p = 5
  · subst c5
    cases h
    exact ⟨by decide, by decide, rfl, rfl⟩
  by_cases c6 : p = 6
  · subst c6
    cases h
    exact ⟨by decide, by decide, rfl, rfl⟩
  by_cases c7 : p = 7
  · subst c7
    cases h
    exact ⟨by decide, by decide, rfl, rfl⟩
  by_cases c8 : p = 8
  · subst c8
    cases h
    exact ⟨by decide, by decide, rfl, rfl⟩
  by_cases c9 : p = 9
  · subst c9
    cases h
    exact ⟨by decide, by decide, rfl, rfl⟩
  by_cases c10 : p = 10
  · subst c10
    cases h
    exact ⟨by decide, by decide, rfl, rfl⟩
  by_cases c11 : p = 11
  · subst c11
    cases h
    exact ⟨by decide, by decide, rfl, rfl⟩
  by_cases c12 : p = 12
  · subst c12
    cases h
    exact ⟨by decide, by decide, rfl, rfl⟩
  by_cases c13 : p = 13
  · subst c13
    cases h
    exact ⟨by decide, by decide, rfl, rfl⟩
  by_cases c14 : p = 14
  · subst c14
    cases h
    exact ⟨by decide, by decide, rfl, rfl⟩
  by_cases c15 : p = 15
  · subst c15
    cases h
    exact ⟨by decide, by decide, rfl, rfl⟩
  by_cases c16 : p = 16
  · subst c16
    cases h
    exact ⟨by decide, by decide, rfl, rfl⟩
  by_cases c17 : p = 17
  · subst c17
    cases h
    exact ⟨by decide, by decide, rfl, rfl⟩
  by_cases c18 : p = 18
  · subst c18
    cases h
    exact ⟨by decide, by decide, rfl, rfl⟩
  by_cases c19 : p = 19
  · subst c19
    cases h
    exact ⟨by decide, by decide, rfl, rfl⟩
  unfold PyVbxlac.shape at h
  rw [if_neg c0, if_neg c1, if_neg c2, if_neg c3, if_neg c4, if_neg c5, if_neg c6, if_neg c7, if_neg c8, if_neg c9, if_neg c10, if_neg c11, if_neg c12, if_neg c13, if_neg c14, if_neg c15, if_neg c16, if_neg c17, if_neg c18, if_neg c19] at h
  cases h
section
variable {σ : L2.St} {H : Hp} {ta te : TE} {D : Ends} {tz : TS}
/-- xs.append(a new object) -/
theorem q_appI {l C : Addr} {xs : List V} {fs : List (Str × V)} (hl : H l = some (.lst xs)) (ha : Ev ta σ H (.ref l)) (h : EvI te σ H C fs) (hz : xs.length < 100000)
    (k : ∀ x dx H1, H x = none → Ex H H1 → H1 x = some (.ins C dx fs) → tz D σ (upd H1 l (.lst (xs ++ [.ref x])))) : tSeq (tDrop (tBM K "list" rAppend ta (tCons te tNil))) tz D σ H := ha H (Ex.refl H) _ fun H1 e1 =>
  ⟨Or.inl ⟨rfl, xs, sq_of (e1 l _ hl)⟩, h H1 e1 _ fun x dx H2 nx e2 h2 => ⟨l, xs, .ref x, rfl, rfl, e2 l _ (e1 l _ hl), sz_lt hz, k x dx H2 (fresh_back e1 nx) (e1.trans e2) h2⟩⟩
end
def sp_split_calls (K : PySem.W.Frag) (A : Ads) : Sp := fun vs H Q _ => ∃ (a : Addr) (l : List Int) (cs : List (List (List Int))), vs = [.ref a] ∧ SqL K H a (ansV l) ∧ l.length ≤ 14000 ∧ PyFlat.calls PyVbxlac.shape l.length l = some cs ∧
  ∀ (F : Addr) (as : List Addr) (H2 : Hp), H F = none → as.length = cs.length → (∀ (i : Nat) (b : Addr) (c : List (List Int)), as[i]? = some b → cs[i]? = some c → CallIs A (fun x => H x = none) H2 b c) → Ex H H2 → H2 F = some (.lst (as.map .ref)) → Q (.ref F) H2
theorem len_split_calls : ∀ vs H Q E, sp_split_calls K A vs H Q E → vs.length = (["calls"] : List Str).length := by
  rintro vs H Q E ⟨a, l, cs, rfl, _⟩
  rfl
def t_split_calls (K : PySem.W.Frag) (A : Ads) : TS :=
 tSeq (tAsg (tLst (tNil)) (gName 1))
 (tSeq (tAsg (tC (.int 0)) (gName 2))
 (tSeq (tWhile (tTest (tOp (rLt) (tVar 2) (tCB (rLenS K) (tCons (tVar 0) (tNil)))))
 (tSeq (tAsg (tOp (rIxL K) (tVar 0) (tVar 2)) (gName 3))
 (tSeq (tAsg (tOp rPlus (tOp rPlus (tVar 2) (tC (.int 1))) (tOp (rIxT K) (tC (.ref A.k_NUMBER_COUNTS)) (tVar 3))) (gName 4))
 (tSeq (tAsg (tSl (rSlL K) (tVar 0) (tPart (tOp rPlus (tVar 2) (tC (.int 1)))) (tPart (tVar 4))) (gName 5))
 (tSeq (tAsg (tLst (tNil)) (gName 6))
 (tSeq (tIfS (tTest (tOp (rIn K false) (tVar 3) (tC (.ref A.k_WITH_LIST))))
 (tSeq (tAsg (tOp rPlus (tVar 4) (tC (.int 1))) (gName 7))
 (tSeq (tAsg (tOp rPlus (tVar 7) (tOp (rIxL K) (tVar 0) (tVar 4))) (gName 4))
 (tAsg (tSl (rSlL K) (tVar 0) (tPart (tVar 7)) (tPart (tVar 4))) (gName 6))))
 (tNext))
 (tSeq (tDrop (tBM K "list" rAppend (tVar 1) (tCons (tMake A.c_Call (sp_Call_init K A) [] E0 (tCons (tVar 3) (tCons (tVar 5) (tCons (tVar 6) (tNil))))) (tNil))))
 (tAsg (tVar 4) (gName 2)))))))))
 (tRet (tVar 1))))
theorem sq_counts (T : Txt K mg A) {H : Hp} : SqT K H A.k_NUMBER_COUNTS (ansV (counts.map fun (n : Nat) => (n : Int))) := .inr T.t_NUMBER_COUNTS
theorem sq_withList (T : Txt K mg A) {H : Hp} : SqT K H A.k_WITH_LIST [.int 1, .int 15, .int 16] := .inr T.t_WITH_LIST
theorem ansV_at {l : List Int} {i : Nat} {x : Int} (h : l[i]? = some x) : (ansV l)[i]? = some (.int x) := by
  unfold ansV
  rw [List.getElem?_map, h] <;> rfl
theorem cut_ansV {l : List Int} {i j : Nat} (hij : i ≤ j) (hj : j ≤ l.length) : cutV (ansV l) (some (i : Int)) (some (j : Int)) = ansV ((l.drop i).take (j - i)) := by
  unfold cutV ansV
  rw [HT.sIx_nat, HT.sIx_nat, List.length_map, ← List.map_drop, ← List.map_take, Nat.min_eq_left hj, Nat.min_eq_left (Nat.le_trans hij hj)]
theorem put_cons_at (front a row back : List Int) (p : Int) : (front ++ (p :: (a ++ row) ++ back))[front.length]? = some p := by
  rw [List.getElem?_append_right (Nat.le_refl _)]
  simp
/-- i calls read -/
def SplitW (A : Ads) (H : Hp) (a F : Addr) (cs : List (List (List Int))) (i : Nat) (σ' : L2.St) (H' : Hp) : Prop :=
  ∃ (as : List Addr) (x3 x4 x5 x6 x7 : Option V), i ≤ cs.length ∧ as.length = i ∧ (∀ (j : Nat) (b : Addr) (c : List (List Int)), as[j]? = some b → cs[j]? = some c → CallIs A (fun x => H x = none ∧ x ≠ F) H' b c) ∧ Ex H H' ∧ H' F = some (.lst (as.map .ref)) ∧
    σ' = [some (.ref a), some (.ref F), some (.int (((PyFlat.put (cs.take i)).length : Nat) : Int)), x3, x4, x5, x6, x7]
theorem put_app (xs ys : List (List (List Int))) : PyFlat.put (xs ++ ys) = PyFlat.put xs ++ PyFlat.put ys := by
  induction xs with
  | nil => rfl
  | cons x xs ih =>
    show PyFlat.put1 x ++ PyFlat.put (xs ++ ys) = PyFlat.put1 x ++ PyFlat.put xs ++ PyFlat.put ys
    rw [ih, List.append_assoc]
theorem drop_cut (front mid back : List Int) (k n : Nat) (hk : k + n ≤ mid.length) : ((front ++ (mid ++ back)).drop (front.length + k)).take n = (mid.drop k).take n := by
  rw [List.drop_append, List.drop_eq_nil_of_le (by omega), show front.length + k - front.length = k by omega, List.nil_append, List.drop_append, List.take_append]
  rw [show n - (mid.drop k).length = 0 by rw [List.length_drop]; omega]
  simp
theorem pure_split_calls (T : Txt K mg A) (vs : List V) (H : Hp) (Q : VK) (E : XK) (h : sp_split_calls K A vs H Q E) : t_split_calls K A { nx := fun _ H' => Q .non H', rt := Q } (start ["calls", "found", "place", "operation", "end", "numbers", "row", "start"] vs) H := by
  obtain ⟨a, l, cs, rfl, hs, hz, hcs, k⟩ := h
  obtain ⟨hput, hok⟩ := PyFlat.put_calls _ _ _ hcs
  have csl : cs.length ≤ l.length := by
    rw [hput]
    clear hput hcs k
    induction cs with
    | nil => exact Nat.zero_le _
    | cons c cs ih =>
      obtain ⟨p, ns, xs, hcall, _⟩ := hok c (List.mem_cons_self ..)
      have := ih fun d hd => hok d (List.mem_cons_of_mem _ hd)
      show cs.length + 1 ≤ (PyFlat.put1 c ++ PyFlat.put cs).length
      rw [List.length_append, hcall]
      show _ ≤ (p :: ns ++ PyFlat.putRows xs).length + _
      simp
      omega
  refine q_asgL (el_lst ea_nil (by decide)) fun F H1 nF e1 h1 => ?_
  refine q_asg ev_c fun H2 e2 => ?_
  refine q_while (fun m σ' H' => ∃ i, m = cs.length - i ∧ SplitW A H a F cs i σ' H') cs.length ⟨0, rfl, [], none, none, none, none, none, Nat.zero_le _, rfl, (fun j b c h => by simp at h), e1.trans e2, e2 _ _ h1, rfl⟩ ?_
  rintro m σ' H' ⟨i, rfl, as, x3, x4, x5, x6, x7, hi, hl, hc, e, hF, rfl⟩
  have whole : l = PyFlat.put (cs.take i) ++ PyFlat.put (cs.drop i) := by rw [← put_app, List.take_append_drop]; exact hput
  refine ⟨decide ((((PyFlat.put (cs.take i)).length : Nat) : Int) < (l.length : Int)), et_test (ev_op (ev_var rfl) (ev_is (ev_len (ev_var rfl) (ex_l e hs)) (by unfold ansV; rw [List.length_map])) rv_I0), fun hb H3 e3 => ?_, fun hb H3 e3 => ?_⟩
  · have hlt : (PyFlat.put (cs.take i)).length < l.length := by
      have := of_decide_eq_true hb
      omega
    have hic : i < cs.length := by
      by_cases z : i < cs.length
      · exact z
      · have : cs.drop i = [] := List.drop_eq_nil_of_le (by omega)
        rw [this] at whole
        rw [whole] at hlt
        simp [PyFlat.put] at hlt
    have hd : cs.drop i = cs[i] :: cs.drop (i + 1) := List.drop_eq_getElem_cons hic
    obtain ⟨p, ns, xs, hcall, hsh⟩ := hok cs[i] (List.getElem_mem hic)
    obtain ⟨p0, p19, hcnt, hxs⟩ := shape_is hsh
    -- the list at this place
    have wl : l = PyFlat.put (cs.take i) ++ ((p :: (ns ++ PyFlat.putRows xs)) ++ PyFlat.put (cs.drop (i + 1))) := by
      rw [hd] at whole
      rw [whole]
      show _ ++ (PyFlat.put1 cs[i] ++ _) = _
      rw [hcall]
      rfl
    have takeN : (PyFlat.put (cs.take (i + 1))).length = (PyFlat.put (cs.take i)).length + (1 + (ns.length + (PyFlat.putRows xs).length)) := by
      rw [take_snoc (List.getElem?_eq_getElem hic), put_app, List.length_append]
      show _ + (PyFlat.put1 cs[i] ++ []).length = _
      rw [hcall, List.append_nil]
      show _ + (p :: ns ++ PyFlat.putRows xs).length = _
      simp
      omega
    have e0 := e.trans e3
    refine ⟨SplitW A H a F cs (i + 1), fun σ2 H2 hW => ⟨cs.length - (i + 1), by omega, i + 1, rfl, hW⟩, ?_⟩
    generalize hfr : PyFlat.put (cs.take i) = front at wl takeN ⊢
    generalize PyFlat.put (cs.drop (i + 1)) = back at wl
    have cut : ∀ k n : Nat, k + n ≤ 1 + (ns.length + (PyFlat.putRows xs).length) → cutV (ansV l) (some ((front.length + k : Nat) : Int)) (some ((front.length + k + n : Nat) : Int)) = ansV (((p :: (ns ++ PyFlat.putRows xs)).drop k).take n) := fun k n hkn => by
      rw [cut_ansV (by omega) (by rw [wl]; simp; omega)]
      congr 1
      rw [show front.length + k + n - (front.length + k) = n by omega, wl, drop_cut _ _ _ _ _ (by simp; omega)]
    have atl : ∀ k x, (p :: (ns ++ PyFlat.putRows xs))[k]? = some x → l[front.length + k]? = some x := fun k x hx => by
      have hk := (List.getElem?_eq_some_iff.mp hx).1
      rw [wl, List.getElem?_append_right (by omega), show front.length + k - front.length = k by omega, List.getElem?_append_left hk]
      exact hx
    -- operation
    refine q_asg (v := .int p) (ev_ixL (j := front.length) (ev_var rfl) (ev_var rfl) (ex_l e0 hs) (ansV_at (atl 0 p rfl))) fun H4 e4 => ?_
    -- end
    have hcnt' : atI (ansV (counts.map fun (n : Nat) => (n : Int))) p = some (.int (ns.length : Int)) := by
      have ep : p = ((p.toNat : Nat) : Int) := by omega
      refine at_of ep (ansV_at ?_)
      rw [List.getElem?_map, hcnt] <;> rfl
    refine q_asg (v := .int (((front.length + 1 + ns.length : Nat)) : Int)) (ev_is (ev_op (ev_op (ev_var rfl) ev_c rv_I0) (ev_op ev_c (ev_var rfl) (rv_ixT (sq_counts T) hcnt')) rv_I0) (by congr 1)) fun H5 e5 => ?_
    have e05 := (e0.trans e4).trans e5
    -- numbers
    refine q_asgL (el_sl (lo := some ((front.length + 1 : Nat) : Int)) (hi := some ((front.length + 1 + ns.length : Nat) : Int)) (ev_var rfl) (eo_some (ev_is (ev_op (ev_var rfl) ev_c rv_I0) (by rfl))) (eo_some (ev_var rfl)) (ex_l e05 hs)) fun an H6 n6 e6 h6 => ?_
    rw [cut 1 ns.length (by omega)] at h6
    have h6' : H6 an = some (.lst (ansV ns)) := by simpa using h6
    have e06 := e05.trans e6
    -- row = []
    refine q_asgL (el_lst ea_nil (by decide)) fun r0 H7 n7 e7 h7 => ?_
    have e07 := e06.trans e7
    have hF7 : H7 F = some (.lst (as.map .ref)) := ((((e3.trans e4).trans e5).trans e6).trans e7) _ _ hF
    have nanF : an ≠ F := fun z => by
      have q : H5 F = some (.lst (as.map .ref)) := ((e3.trans e4).trans e5) _ _ hF
      rw [z, q] at n6
      cases n6
    have nr0F : r0 ≠ F := fun z => by
      have q : H6 F = some (.lst (as.map .ref)) := (((e3.trans e4).trans e5).trans e6) _ _ hF
      rw [z, q] at n7
      cases n7
    -- what follows the if
    have rest : ∀ (ar : Addr) (row : List Int) (en : Int) (x7 : Option V) (H8 : Hp), H ar = none → ar ≠ F → Ex H7 H8 → H8 ar = some (.lst (ansV row)) → (cs[i] = [p :: ns] ∧ row = [] ∨ cs[i] = [p :: ns, row]) → en = (((PyFlat.put (cs.take (i + 1))).length : Nat) : Int) →
        tSeq (tDrop (tBM K "list" rAppend (tVar 1) (tCons (tMake A.c_Call (sp_Call_init K A) [] E0 (tCons (tVar 3) (tCons (tVar 5) (tCons (tVar 6) (tNil))))) (tNil))))
         (tAsg (tVar 4) (gName 2))
         { nx := SplitW A H a F cs (i + 1), rt := Q, bk := fun _ _ => False, ct := SplitW A H a F cs (i + 1) }
         [some (.ref a), some (.ref F), some (.int ((front.length : Nat) : Int)), some (.int p), some (.int en), some (.ref an), some (.ref ar), x7] H8 := by
      intro ar row en x7 H8 nar narF e8 h8 hcase hen
      have e08 := e07.trans e8
      have hF8 : H8 F = some (.lst (as.map .ref)) := e8 _ _ hF7
      refine q_appI hF8 (ev_var rfl) (ei_make (fs := fl_Call (.int p) (.ref an) (.ref ar)) (ea_cons (ev_var rfl) (ea_cons (ev_var rfl) (ea_cons (ev_var rfl) ea_nil))) (fun p dx H Q E hp hq => ⟨p, dx, _, _, _, rfl, hp, hq⟩)) (by rw [List.length_map, hl]; omega) fun x dx H9 nx e9 h9 => ?_
      have keep : ∀ {b : Addr} {o : HO}, H9 b = some o → b ≠ F → (upd H9 F (.lst (as.map V.ref ++ [.ref x]))) b = some o := fun hb nb => by rw [upd_ne nb]; exact hb
      have nxF : x ≠ F := fun z => by rw [z, hF8] at nx; cases nx
      have upE : Ex H (upd H9 F (.lst (as.map V.ref ++ [.ref x]))) := Ex.mut (e08.trans e9) nF
      refine s_asg (ev_var rfl) fun H10 e10 => ⟨as ++ [x], _, _, _, _, _, by omega, by simp [hl], fun j b c hbj hcj => ?_, upE.trans e10, ?_, by rw [hen]; rfl⟩
      · by_cases hj : j < as.length
        · rw [List.getElem?_append_left hj] at hbj
          obtain ⟨bn, br, op, ms, rw', ⟨⟨dx', g1⟩, g2, g3⟩, f1, f2, f3, hcas⟩ := hc j b c hbj hcj
          have up9 : ∀ {b : Addr} {o : HO}, H' b = some o → H9 b = some o := fun hb => (((((((e3.trans e4).trans e5).trans e6).trans e7).trans e8).trans e9)) _ _ hb
          exact ⟨bn, br, op, ms, rw', ⟨⟨dx', e10 _ _ (keep (up9 g1) f1.2)⟩, e10 _ _ (keep (up9 g2) f2.2), e10 _ _ (keep (up9 g3) f3.2)⟩, f1, f2, f3, hcas⟩
        · have hz : j = as.length := by
            have := (List.getElem?_eq_some_iff.mp hbj).1
            simp at this
            omega
          rw [hz, List.getElem?_append_right (Nat.le_refl _)] at hbj
          simp at hbj
          subst hbj
          rw [hz, hl, List.getElem?_eq_getElem hic] at hcj
          cases hcj
          exact ⟨an, ar, p, ns, row, ⟨⟨dx, e10 _ _ (keep h9 nxF)⟩, e10 _ _ (keep (((e7.trans e8).trans e9) _ _ h6') nanF), e10 _ _ (keep (e9 _ _ h8) narF)⟩, ⟨fresh_back e08 nx, nxF⟩, ⟨fresh_back e05 n6, nanF⟩, ⟨nar, narF⟩, hcase⟩
      · rw [e10 _ _ upd_same]
        simp
    by_cases hw : p = 1 ∨ p = 15 ∨ p = 16
    · rw [if_pos hw] at hxs
      obtain ⟨row, rfl⟩ : ∃ row, xs = [row] := by
        match xs, hxs with
        | [row], _ => exact ⟨row, rfl⟩
      have pr : PyFlat.putRows [row] = (row.length : Int) :: row := by
        show PyFlat.putRow row ++ [] = _
        rw [List.append_nil] <;> rfl
      refine q_if (b := true) (et_is (et_test (ev_op (ev_var rfl) ev_c (rv_isT (sq_withList T) rfl rfl))) ?_) (fun _ H8 e8 => ?_) (fun z => by cases z)
      · rcases hw with rfl | rfl | rfl <;> rfl
      · refine q_asg (v := .int ((front.length + 1 + ns.length + 1 : Nat) : Int)) (ev_is (ev_op (ev_var rfl) ev_c rv_I0) (by rfl)) fun H9 e9 => ?_
        have e79 := (e7.trans e8).trans e9
        have e09 := e07.trans (e8.trans e9)
        have hat : (p :: (ns ++ PyFlat.putRows [row]))[1 + ns.length]? = some (row.length : Int) := by
          rw [pr, Nat.add_comm, List.getElem?_cons_succ, List.getElem?_append_right (Nat.le_refl _)]
          simp
        refine q_asg (v := .int ((front.length + (1 + ns.length + 1) + row.length : Nat) : Int)) (ev_is (ev_op (ev_var rfl) (ev_ixL (j := front.length + 1 + ns.length) (ev_var rfl) (ev_var rfl) (ex_l e09 hs) (ansV_at (by rw [Nat.add_assoc]; exact atl _ _ hat))) rv_I0) (by congr 1; omega)) fun H10 e10 => ?_
        refine s_asgL (el_sl (lo := some ((front.length + (1 + ns.length + 1) : Nat) : Int)) (hi := some ((front.length + (1 + ns.length + 1) + row.length : Nat) : Int)) (ev_var rfl) (eo_some (ev_is (ev_var rfl) (by congr 1; omega))) (eo_some (ev_var rfl)) (ex_l (e09.trans e10) hs)) fun ar H11 n11 e11 h11 => ?_
        rw [cut _ row.length (by rw [pr]; simp; omega)] at h11
        have h11' : H11 ar = some (.lst (ansV row)) := by
          rw [h11, pr]
          congr 2
          rw [show 1 + ns.length + 1 = (ns.length + 1) + 1 by omega, List.drop_succ_cons, List.drop_append, List.drop_eq_nil_of_le (by omega), show ns.length + 1 - ns.length = 1 by omega]
          simp
        refine rest ar row _ _ H11 (fresh_back (e09.trans e10) n11) (fun z => ?_) (((e8.trans e9).trans e10).trans e11) h11' (.inr (by rw [hcall])) ?_
        · have := ((e8.trans e9).trans e10) _ _ hF7
          rw [z, this] at n11
          cases n11
        · rw [takeN, pr]
          simp
          omega
    · rw [if_neg hw] at hxs
      have hxs0 : xs = [] := List.eq_nil_of_length_eq_zero hxs
      subst hxs0
      refine q_if (b := false) (et_is (et_test (ev_op (ev_var rfl) ev_c (rv_isT (sq_withList T) rfl rfl))) ?_) (fun z => by cases z) (fun _ H8 e8 => ?_)
      · have h1 : p ≠ 1 := fun z => hw (.inl z)
        have h2 : p ≠ 15 := fun z => hw (.inr (.inl z))
        have h3 : p ≠ 16 := fun z => hw (.inr (.inr z))
        show inV (.int p) [.int 1, .int 15, .int 16] = false
        unfold inV
        simp only [List.any_cons, List.any_nil, eqV, Bool.or_false, Bool.or_eq_false_iff, beq_eq_false_iff_ne]
        exact ⟨fun z => h1 z.symm, fun z => h2 z.symm, fun z => h3 z.symm⟩
      · refine rest r0 [] _ _ H8 (fresh_back e06 n7) nr0F e8 (e8 _ _ h7) (.inl ⟨hcall, rfl⟩) ?_
        rw [takeN]
        show _ = (((_ + (1 + (ns.length + 0)) : Nat)) : Int)
        congr 1
        omega
  · have hge : l.length ≤ (PyFlat.put (cs.take i)).length := by
      have := of_decide_eq_false hb
      omega
    have hic : i = cs.length := by
      by_cases z : i < cs.length
      · have hd : cs.drop i = cs[i] :: cs.drop (i + 1) := List.drop_eq_getElem_cons z
        obtain ⟨p, ns, xs, hcall, _⟩ := hok cs[i] (List.getElem_mem z)
        rw [hd] at whole
        rw [whole] at hge
        have : PyFlat.put (cs[i] :: cs.drop (i + 1)) = PyFlat.put1 cs[i] ++ PyFlat.put (cs.drop (i + 1)) := rfl
        rw [this, hcall] at hge
        have h2 : PyFlat.put1 ((p :: ns) :: xs) = p :: ns ++ PyFlat.putRows xs := rfl
        rw [h2] at hge
        simp at hge
        omega
      · omega
    exact s_ret (ev_var rfl) fun H4 e4 => k F as H4 nF (by omega) (fun j b c hb hcj => ((hc j b c hb hcj).ex (e3.trans e4)).weak fun _ h => h.1) ((e.trans e3).trans e4) (e4 _ _ (e3 _ _ hF))
end Sur
namespace Sur
open PySem PySem.Spec PyProof.Rows L2 Evl
variable {P : Program} {w : World} {K : PySem.W.Frag} {mg : Str → Option Value} {base : Heap} {A : Ads} {W : Addr → Prop}
/-! ## Which call is answered -/
theorem step_of {s : Vbxlac.State} {c : List (List Int)} {k : Vbxlac.Call} (h : Vbxlac.decode c = some k) : Vbxlac.step s c = resOf s k := by
  unfold Vbxlac.step
  rw [h]
  simp only
  unfold resOf resR
  cases Vbxlac.perform s k <;> rfl
/-- a call: its number, its numbers, its row -/
def Op (c : List (List Int)) (op : Int) (ns row : List Int) : Prop := c = [op :: ns] ∧ row = [] ∧ PyVbxlac.shape op = some (ns.length, 0) ∨ c = [op :: ns, row] ∧ PyVbxlac.shape op = some (ns.length, 1)
theorem op_of {c : List (List Int)} {op : Int} {ns row : List Int} (h : c = [op :: ns] ∧ row = [] ∨ c = [op :: ns, row]) (hs : ∃ p ms xs, c = (p :: ms) :: xs ∧ PyVbxlac.shape p = some (ms.length, xs.length)) : Op c op ns row := by
  obtain ⟨p, ms, xs, hc, hp⟩ := hs
  rcases h with ⟨h, hr⟩ | h
  · rw [h] at hc
    cases hc
    exact .inl ⟨h, hr, hp⟩
  · rw [h] at hc
    cases hc
    exact .inr ⟨h, hp⟩
theorem Op.numbers {c : List (List Int)} {op : Int} {ns row : List Int} (h : Op c op ns row) {n k : Nat} (hs : PyVbxlac.shape op = some (n, k)) : ns.length = n := by
  rcases h with ⟨_, _, h⟩ | ⟨_, h⟩ <;> rw [hs] at h <;> cases h <;> rfl
theorem Op.bare {c : List (List Int)} {op : Int} {ns row : List Int} (h : Op c op ns row) {n : Nat} (hs : PyVbxlac.shape op = some (n, 0)) : c = [op :: ns] := by
  rcases h with ⟨h, _, _⟩ | ⟨_, h⟩
  · exact h
  · rw [hs] at h
    cases h
theorem Op.rowed {c : List (List Int)} {op : Int} {ns row : List Int} (h : Op c op ns row) {n : Nat} (hs : PyVbxlac.shape op = some (n, 1)) : c = [op :: ns, row] := by
  rcases h with ⟨_, _, h⟩ | ⟨h, _⟩
  · rw [hs] at h
    cases h
  · exact h
theorem Op.range {c : List (List Int)} {op : Int} {ns row : List Int} (h : Op c op ns row) : 0 ≤ op ∧ op ≤ 19 := by
  rcases h with ⟨_, _, h⟩ | ⟨_, h⟩
  · exact ⟨(shape_is h).1, (shape_is h).2.1⟩
  · exact ⟨(shape_is h).1, (shape_is h).2.1⟩
theorem list0 {ns : List Int} (h : ns.length = 0) : ns = [] := List.eq_nil_of_length_eq_zero h
theorem list1 {ns : List Int} (h : ns.length = 1) : ∃ x, ns = [x] := match ns, h with
  | [x], _ => ⟨x, rfl⟩
theorem list2 {ns : List Int} (h : ns.length = 2) : ∃ x y, ns = [x, y] := match ns, h with
  | [x, y], _ => ⟨x, y, rfl⟩
theorem list3 {ns : List Int} (h : ns.length = 3) : ∃ x y z, ns = [x, y, z] := match ns, h with
  | [x, y, z], _ => ⟨x, y, z, rfl⟩
theorem list4 {ns : List Int} (h : ns.length = 4) : ∃ x y z u, ns = [x, y, z, u] := match ns, h with
  | [x, y, z, u], _ => ⟨x, y, z, u, rfl⟩
/-- a call asked of a state that stands -/
structure Ask (A : Ads) (W : Addr → Prop) (H : Hp) (G : NG) (s : Vbxlac.State) (k : Nat) (c : List (List Int)) (op : Int) (ns row : List Int) (an ar : Addr) (Q : VK) : Prop where
  op : Op c op ns row
  num : H an = some (.lst (ansV ns))
  back : H ar = some (.lst (ansV row))
  room : row.length ≤ 1000
  out : Out G s ar
  new : W ar
  net : NetAt A H G s
  good : Good k s
  few : k ≤ 200
  fresh : ∀ a, H a = none → W a
  ret : RetStep A W H G s (Vbxlac.step s c).1 (Vbxlac.step s c).2 Q
section
variable {H H1 : Hp} {G : NG} {s : Vbxlac.State} {k : Nat} {c : List (List Int)} {op : Int} {ns row : List Int} {an ar : Addr} {Q : VK}
theorem Ask.ex (h : Ask A W H G s k c op ns row an ar Q) (e : Ex H H1) : Ask A W H1 G s k c op ns row an ar Q :=
  ⟨h.op, e _ _ h.num, e _ _ h.back, h.room, h.out, h.new, h.net.ex e, h.good, h.few, fun a ha => h.fresh a (fresh_back e ha), h.ret.left e⟩
theorem Ask.retC (h : Ask A W H G s k c op ns row an ar Q) {kc : Vbxlac.Call} (hd : Vbxlac.decode c = some kc) : RetC A W H G s kc Q := by
  have r := h.ret
  rw [step_of hd] at r
  exact r
theorem Ask.spC (h : Ask A W H G s k c op ns row an ar Q) {kc : Vbxlac.Call} (hd : Vbxlac.decode c = some kc) {args : List V} {E : XK} : SpC A args kc (.ref (G.ad .net) :: args) H Q E :=
  ⟨W, G, s, k, rfl, h.net, h.good, h.few, h.fresh, h.retC hd⟩
theorem Ask.ev {σ : L2.St} {te : TE} (h : Ask A W H G s k c op ns row an ar Q) {j : Nat} {x : Int} (hv : Ev te σ H (.ref an)) (hx : ns[j]? = some x) : Ev (tOp (rIxL K) te (tC (.int (j : Int)))) σ H (.int x) :=
  ev_ixL hv ev_c (sq_of h.num) (ansV_at hx)
end
section
variable {σ : L2.St} {H : Hp} {t0 t1 t2 t3 t4 : TE} {x0 x1 x2 x3 x4 : V} {sp : Sp} {D : Ends}
theorem ret_call1 (h0 : Ev t0 σ H x0) (k : ∀ H1, Ex H H1 → sp [x0] H1 D.rt E0) : tRet (tCall sp [] E0 (tCons t0 tNil)) D σ H :=
  h0 H (Ex.refl H) _ fun H1 e1 => k H1 e1
theorem ret_call2 (h0 : Ev t0 σ H x0) (h1 : Ev t1 σ H x1) (k : ∀ H1, Ex H H1 → sp [x0, x1] H1 D.rt E0) : tRet (tCall sp [] E0 (tCons t0 (tCons t1 tNil))) D σ H :=
  h0 H (Ex.refl H) _ fun H1 e1 => h1 H1 e1 _ fun H2 e2 => k H2 (e1.trans e2)
theorem ret_call3 (h0 : Ev t0 σ H x0) (h1 : Ev t1 σ H x1) (h2 : Ev t2 σ H x2) (k : ∀ H1, Ex H H1 → sp [x0, x1, x2] H1 D.rt E0) : tRet (tCall sp [] E0 (tCons t0 (tCons t1 (tCons t2 tNil)))) D σ H :=
  h0 H (Ex.refl H) _ fun H1 e1 => h1 H1 e1 _ fun H2 e2 => h2 H2 (e1.trans e2) _ fun H3 e3 => k H3 ((e1.trans e2).trans e3)
theorem ret_call4 (h0 : Ev t0 σ H x0) (h1 : Ev t1 σ H x1) (h2 : Ev t2 σ H x2) (h3 : Ev t3 σ H x3) (k : ∀ H1, Ex H H1 → sp [x0, x1, x2, x3] H1 D.rt E0) : tRet (tCall sp [] E0 (tCons t0 (tCons t1 (tCons t2 (tCons t3 tNil))))) D σ H :=
  h0 H (Ex.refl H) _ fun H1 e1 => h1 H1 e1 _ fun H2 e2 => h2 H2 (e1.trans e2) _ fun H3 e3 => h3 H3 ((e1.trans e2).trans e3) _ fun H4 e4 => k H4 (((e1.trans e2).trans e3).trans e4)
theorem ret_call5 (h0 : Ev t0 σ H x0) (h1 : Ev t1 σ H x1) (h2 : Ev t2 σ H x2) (h3 : Ev t3 σ H x3) (h4 : Ev t4 σ H x4) (k : ∀ H1, Ex H H1 → sp [x0, x1, x2, x3, x4] H1 D.rt E0) : tRet (tCall sp [] E0 (tCons t0 (tCons t1 (tCons t2 (tCons t3 (tCons t4 tNil)))))) D σ H :=
  h0 H (Ex.refl H) _ fun H1 e1 => h1 H1 e1 _ fun H2 e2 => h2 H2 (e1.trans e2) _ fun H3 e3 => h3 H3 ((e1.trans e2).trans e3) _ fun H4 e4 => h4 H4 (((e1.trans e2).trans e3).trans e4) _ fun H5 e5 => k H5 ((((e1.trans e2).trans e3).trans e4).trans e5)
end
/-- the call's number is looked at: it is n, or another -/
theorem q_op {σ : L2.St} {H : Hp} {D : Ends} {tu tz : TS} {te : TE} {op n : Int} (h : Ev te σ H (.int op)) (h1 : op = n → ∀ H1, Ex H H1 → tu { D with nx := tz D } σ H1) (h2 : op ≠ n → ∀ H1, Ex H H1 → tz D σ H1) :
    tSeq (tIfS (tTest (tOp rEq te (tC (.int n)))) tu tNext) tz D σ H :=
  q_when (et_test (ev_op h ev_c (rv_eq rfl))) (fun hb => h1 (by have := vint_eq hb; omega)) (fun hb => h2 (by have := vint_ne hb; omega))
def SpOp (A : Ads) (ok : Int → Prop) : Sp := fun vs H Q _ => ∃ (W : Addr → Prop) (G : NG) (s : Vbxlac.State) (k : Nat) (c : List (List Int)) (op : Int) (ns row : List Int) (an ar : Addr), vs = [.ref (G.ad .net), .int op, .ref an, .ref ar] ∧ ok op ∧ Ask A W H G s k c op ns row an ar Q
def sp_answer_change (K : PySem.W.Frag) (A : Ads) : Sp := SpOp A fun op => (0 ≤ op ∧ op < 10) ∨ op = 17
theorem len_answer_change : ∀ vs H Q E, sp_answer_change K A vs H Q E → vs.length = (["network", "operation", "numbers", "row"] : List Str).length := by
  rintro vs H Q E ⟨W, G, s, k, c, op, ns, row, an, ar, rfl, _⟩
  rfl
def t_answer_change (K : PySem.W.Frag) (A : Ads) : TS :=
 tSeq (tIfS (tTest (tOp (rEq) (tVar 1) (tC (.int 0))))
 (tRet (tCall (sp_create_sites K A) [] E0 (tCons (tVar 0) (tCons (tOp (rIxL K) (tVar 2) (tC (.int 0))) (tNil)))))
 (tNext))
 (tSeq (tIfS (tTest (tOp (rEq) (tVar 1) (tC (.int 1))))
 (tRet (tCall (sp_post K A) [] E0 (tCons (tVar 0) (tCons (tOp (rIxL K) (tVar 2) (tC (.int 0))) (tCons (tOp (rIxL K) (tVar 2) (tC (.int 1))) (tCons (tVar 3) (tNil)))))))
 (tNext))
 (tSeq (tIfS (tTest (tOp (rEq) (tVar 1) (tC (.int 2))))
 (tRet (tCall (sp_sync K A) [] E0 (tCons (tVar 0) (tCons (tOp (rIxL K) (tVar 2) (tC (.int 0))) (tNil)))))
 (tNext))
 (tSeq (tIfS (tTest (tOp (rEq) (tVar 1) (tC (.int 3))))
 (tRet (tCall (sp_crash K A) [] E0 (tCons (tVar 0) (tCons (tOp (rIxL K) (tVar 2) (tC (.int 0))) (tNil)))))
 (tNext))
 (tSeq (tIfS (tTest (tOp (rEq) (tVar 1) (tC (.int 4))))
 (tRet (tCall (sp_at_risk K A) [] E0 (tCons (tVar 0) (tCons (tOp (rIxL K) (tVar 2) (tC (.int 0))) (tNil)))))
 (tNext))
 (tSeq (tIfS (tTest (tOp (rEq) (tVar 1) (tC (.int 5))))
 (tRet (tCall (sp_transmit K A) [] E0 (tCons (tVar 0) (tCons (tOp (rIxL K) (tVar 2) (tC (.int 0))) (tCons (tOp (rIxL K) (tVar 2) (tC (.int 1))) (tNil))))))
 (tNext))
 (tSeq (tIfS (tTest (tOp (rEq) (tVar 1) (tC (.int 6))))
 (tRet (tCall (sp_deliver K A) [] E0 (tCons (tVar 0) (tCons (tOp (rIxL K) (tVar 2) (tC (.int 0))) (tNil)))))
 (tNext))
 (tSeq (tIfS (tTest (tOp (rEq) (tVar 1) (tC (.int 7))))
 (tRet (tCall (sp_lose K A) [] E0 (tCons (tVar 0) (tCons (tOp (rIxL K) (tVar 2) (tC (.int 0))) (tNil)))))
 (tNext))
 (tSeq (tIfS (tTest (tOp (rEq) (tVar 1) (tC (.int 8))))
 (tRet (tCall (sp_duplicate K A) [] E0 (tCons (tVar 0) (tCons (tOp (rIxL K) (tVar 2) (tC (.int 0))) (tNil)))))
 (tNext))
 (tSeq (tIfS (tTest (tOp (rEq) (tVar 1) (tC (.int 9))))
 (tRet (tCall (sp_damage K A) [] E0 (tCons (tVar 0) (tCons (tOp (rIxL K) (tVar 2) (tC (.int 0))) (tCons (tOp (rIxL K) (tVar 2) (tC (.int 1))) (tCons (tOp (rIxL K) (tVar 2) (tC (.int 2))) (tNil)))))))
 (tNext))
 (tRet (tCall (sp_exchange K A) [] E0 (tCons (tVar 0) (tNil)))))))))))))
theorem pure_answer_change (T : Txt K mg A) (vs : List V) (H : Hp) (Q : VK) (E : XK) (h : sp_answer_change K A vs H Q E) : t_answer_change K A { nx := fun _ H' => Q .non H', rt := Q } (start ["network", "operation", "numbers", "row"] vs) H := by
  obtain ⟨W, G, s, k, c, op, ns, row, an, ar, rfl, lohi, ak⟩ := h
  refine q_op (ev_var rfl) (fun ho H1 e1 => ?_) (fun n0 H1 e1 => ?_)
  · subst ho
    obtain ⟨x, rfl⟩ := list1 (ak.op.numbers (n := 1) (k := 0) rfl)
    have hc := ak.op.bare (n := 1) rfl
    subst hc
    exact ret_call2 (ev_var rfl) ((ak.ex e1).ev (j := 0) (ev_var rfl) rfl) fun H2 e2 => ⟨x, (ak.ex (e1.trans e2)).spC rfl⟩
  replace ak := ak.ex e1
  clear e1
  refine q_op (ev_var rfl) (fun ho H2 e1 => ?_) (fun n1 H2 e1 => ?_)
  · subst ho
    obtain ⟨x, y, rfl⟩ := list2 (ak.op.numbers (n := 2) (k := 1) rfl)
    have hc := ak.op.rowed (n := 2) rfl
    subst hc
    refine ret_call4 (ev_var rfl) ((ak.ex e1).ev (j := 0) (ev_var rfl) rfl) ((ak.ex e1).ev (j := 1) (ev_var rfl) rfl) (ev_var rfl) fun H3 e2 => ?_
    have ak2 := ak.ex (e1.trans e2)
    exact ⟨x, y, row, ar, W, G, s, k, rfl, ak2.back, ak2.room, ak2.out, ak2.new, ak2.net, ak2.good, ak2.few, ak2.retC rfl⟩
  replace ak := ak.ex e1
  clear e1
  refine q_op (ev_var rfl) (fun ho H3 e1 => ?_) (fun n2 H3 e1 => ?_)
  · subst ho
    obtain ⟨x, rfl⟩ := list1 (ak.op.numbers (n := 1) (k := 0) rfl)
    have hc := ak.op.bare (n := 1) rfl
    subst hc
    exact ret_call2 (ev_var rfl) ((ak.ex e1).ev (j := 0) (ev_var rfl) rfl) fun H2 e2 => ⟨x, (ak.ex (e1.trans e2)).spC rfl⟩
  replace ak := ak.ex e1
  clear e1
  refine q_op (ev_var rfl) (fun ho H4 e1 => ?_) (fun n3 H4 e1 => ?_)
  · subst ho
    obtain ⟨x, rfl⟩ := list1 (ak.op.numbers (n := 1) (k := 0) rfl)
    have hc := ak.op.bare (n := 1) rfl
    subst hc
    exact ret_call2 (ev_var rfl) ((ak.ex e1).ev (j := 0) (ev_var rfl) rfl) fun H2 e2 => ⟨x, (ak.ex (e1.trans e2)).spC rfl⟩
  replace ak := ak.ex e1
  clear e1
  refine q_op (ev_var rfl) (fun ho H5 e1 => ?_) (fun n4 H5 e1 => ?_)
  · subst ho
    obtain ⟨x, rfl⟩ := list1 (ak.op.numbers (n := 1) (k := 0) rfl)
    have hc := ak.op.bare (n := 1) rfl
    subst hc
    exact ret_call2 (ev_var rfl) ((ak.ex e1).ev (j := 0) (ev_var rfl) rfl) fun H2 e2 => ⟨x, (ak.ex (e1.trans e2)).spC rfl⟩
  replace ak := ak.ex e1
  clear e1
  refine q_op (ev_var rfl) (fun ho H6 e1 => ?_) (fun n5 H6 e1 => ?_)
  · subst ho
    obtain ⟨x, y, rfl⟩ := list2 (ak.op.numbers (n := 2) (k := 0) rfl)
    have hc := ak.op.bare (n := 2) rfl
    subst hc
    exact ret_call3 (ev_var rfl) ((ak.ex e1).ev (j := 0) (ev_var rfl) rfl) ((ak.ex e1).ev (j := 1) (ev_var rfl) rfl) fun H2 e2 => ⟨x, y, (ak.ex (e1.trans e2)).spC rfl⟩
  replace ak := ak.ex e1
  clear e1
  refine q_op (ev_var rfl) (fun ho H7 e1 => ?_) (fun n6 H7 e1 => ?_)
  · subst ho
    obtain ⟨x, rfl⟩ := list1 (ak.op.numbers (n := 1) (k := 0) rfl)
    have hc := ak.op.bare (n := 1) rfl
    subst hc
    exact ret_call2 (ev_var rfl) ((ak.ex e1).ev (j := 0) (ev_var rfl) rfl) fun H2 e2 => ⟨x, (ak.ex (e1.trans e2)).spC rfl⟩
  replace ak := ak.ex e1
  clear e1
  refine q_op (ev_var rfl) (fun ho H8 e1 => ?_) (fun n7 H8 e1 => ?_)
  · subst ho
    obtain ⟨x, rfl⟩ := list1 (ak.op.numbers (n := 1) (k := 0) rfl)
    have hc := ak.op.bare (n := 1) rfl
    subst hc
    exact ret_call2 (ev_var rfl) ((ak.ex e1).ev (j := 0) (ev_var rfl) rfl) fun H2 e2 => ⟨x, (ak.ex (e1.trans e2)).spC rfl⟩
  replace ak := ak.ex e1
  clear e1
  refine q_op (ev_var rfl) (fun ho H9 e1 => ?_) (fun n8 H9 e1 => ?_)
  · subst ho
    obtain ⟨x, rfl⟩ := list1 (ak.op.numbers (n := 1) (k := 0) rfl)
    have hc := ak.op.bare (n := 1) rfl
    subst hc
    exact ret_call2 (ev_var rfl) ((ak.ex e1).ev (j := 0) (ev_var rfl) rfl) fun H2 e2 => ⟨x, (ak.ex (e1.trans e2)).spC rfl⟩
  replace ak := ak.ex e1
  clear e1
  refine q_op (ev_var rfl) (fun ho H10 e1 => ?_) (fun n9 H10 e1 => ?_)
  · subst ho
    obtain ⟨x, y, z, rfl⟩ := list3 (ak.op.numbers (n := 3) (k := 0) rfl)
    have hc := ak.op.bare (n := 3) rfl
    subst hc
    exact ret_call4 (ev_var rfl) ((ak.ex e1).ev (j := 0) (ev_var rfl) rfl) ((ak.ex e1).ev (j := 1) (ev_var rfl) rfl) ((ak.ex e1).ev (j := 2) (ev_var rfl) rfl) fun H2 e2 => ⟨x, y, z, (ak.ex (e1.trans e2)).spC rfl⟩
  replace ak := ak.ex e1
  clear e1
  have ho : op = 17 := by omega
  subst ho
  have hn := list0 (ak.op.numbers (n := 0) (k := 0) rfl)
  subst hn
  have hc := ak.op.bare (n := 0) rfl
  subst hc
  exact ret_call1 (ev_var rfl) fun H2 e2 => (ak.ex e2).spC rfl
/-! ### the calls that look -/
def sp_answer_look (K : PySem.W.Frag) (A : Ads) : Sp := fun vs H Q _ => ∃ (W : Addr → Prop) (G : NG) (s : Vbxlac.State) (k : Nat) (c : List (List Int)) (op : Int) (ns row : List Int) (an ar : Addr), vs = [.ref (G.ad .net), .int op, .ref an] ∧ ((10 ≤ op ∧ op ≤ 14) ∨ op = 18 ∨ op = 19) ∧ Ask A W H G s k c op ns row an ar Q
theorem len_answer_look : ∀ vs H Q E, sp_answer_look K A vs H Q E → vs.length = (["network", "operation", "numbers"] : List Str).length := by
  rintro vs H Q E ⟨W, G, s, k, c, op, ns, row, an, ar, rfl, _⟩
  rfl
def t_answer_look (K : PySem.W.Frag) (A : Ads) : TS :=
 tSeq (tIfS (tTest (tOp (rEq) (tVar 1) (tC (.int 10))))
 (tRet (tCall (sp_received K A) [] E0 (tCons (tVar 0) (tCons (tOp (rIxL K) (tVar 2) (tC (.int 0))) (tCons (tOp (rIxL K) (tVar 2) (tC (.int 1))) (tCons (tOp (rIxL K) (tVar 2) (tC (.int 2))) (tCons (tOp (rIxL K) (tVar 2) (tC (.int 3))) (tNil))))))))
 (tNext))
 (tSeq (tIfS (tTest (tOp (rEq) (tVar 1) (tC (.int 11))))
 (tRet (tCall (sp_link_state K A) [] E0 (tCons (tVar 0) (tCons (tOp (rIxL K) (tVar 2) (tC (.int 0))) (tCons (tOp (rIxL K) (tVar 2) (tC (.int 1))) (tCons (tOp (rIxL K) (tVar 2) (tC (.int 2))) (tNil)))))))
 (tNext))
 (tSeq (tIfS (tTest (tOp (rEq) (tVar 1) (tC (.int 12))))
 (tRet (tCall (sp_unsettled K A) [] E0 (tCons (tVar 0) (tCons (tOp (rIxL K) (tVar 2) (tC (.int 0))) (tCons (tOp (rIxL K) (tVar 2) (tC (.int 1))) (tNil))))))
 (tNext))
 (tSeq (tIfS (tTest (tOp (rEq) (tVar 1) (tC (.int 13))))
 (tRet (tCall (sp_list_packets K A) [] E0 (tCons (tVar 0) (tNil))))
 (tNext))
 (tSeq (tIfS (tTest (tOp (rEq) (tVar 1) (tC (.int 14))))
 (tRet (tCall (sp_packet_bytes K A) [] E0 (tCons (tVar 0) (tCons (tOp (rIxL K) (tVar 2) (tC (.int 0))) (tNil)))))
 (tNext))
 (tSeq (tIfS (tTest (tOp (rEq) (tVar 1) (tC (.int 18))))
 (tRet (tCall (sp_is_settled K A) [] E0 (tCons (tVar 0) (tNil))))
 (tNext))
 (tRet (tCall (sp_totals K A) [] E0 (tCons (tVar 0) (tNil)))))))))
theorem pure_answer_look (T : Txt K mg A) (vs : List V) (H : Hp) (Q : VK) (E : XK) (h : sp_answer_look K A vs H Q E) : t_answer_look K A { nx := fun _ H' => Q .non H', rt := Q } (start ["network", "operation", "numbers"] vs) H := by
  obtain ⟨W, G, s, k, c, op, ns, row, an, ar, rfl, lohi, ak⟩ := h
  refine q_op (ev_var rfl) (fun ho H1 e1 => ?_) (fun n0 H1 e1 => ?_)
  · subst ho
    obtain ⟨x, y, z, u, rfl⟩ := list4 (ak.op.numbers (n := 4) (k := 0) rfl)
    have hc := ak.op.bare (n := 4) rfl
    subst hc
    exact ret_call5 (ev_var rfl) ((ak.ex e1).ev (j := 0) (ev_var rfl) rfl) ((ak.ex e1).ev (j := 1) (ev_var rfl) rfl) ((ak.ex e1).ev (j := 2) (ev_var rfl) rfl) ((ak.ex e1).ev (j := 3) (ev_var rfl) rfl) fun H2 e2 => ⟨x, y, z, u, (ak.ex (e1.trans e2)).spC rfl⟩
  replace ak := ak.ex e1
  clear e1
  refine q_op (ev_var rfl) (fun ho H2 e1 => ?_) (fun n1 H2 e1 => ?_)
  · subst ho
    obtain ⟨x, y, z, rfl⟩ := list3 (ak.op.numbers (n := 3) (k := 0) rfl)
    have hc := ak.op.bare (n := 3) rfl
    subst hc
    exact ret_call4 (ev_var rfl) ((ak.ex e1).ev (j := 0) (ev_var rfl) rfl) ((ak.ex e1).ev (j := 1) (ev_var rfl) rfl) ((ak.ex e1).ev (j := 2) (ev_var rfl) rfl) fun H2 e2 => ⟨x, y, z, (ak.ex (e1.trans e2)).spC rfl⟩
  replace ak := ak.ex e1
  clear e1
  refine q_op (ev_var rfl) (fun ho H3 e1 => ?_) (fun n2 H3 e1 => ?_)
  · subst ho
    obtain ⟨x, y, rfl⟩ := list2 (ak.op.numbers (n := 2) (k := 0) rfl)
    have hc := ak.op.bare (n := 2) rfl
    subst hc
    exact ret_call3 (ev_var rfl) ((ak.ex e1).ev (j := 0) (ev_var rfl) rfl) ((ak.ex e1).ev (j := 1) (ev_var rfl) rfl) fun H2 e2 => ⟨x, y, (ak.ex (e1.trans e2)).spC rfl⟩
  replace ak := ak.ex e1
  clear e1
  refine q_op (ev_var rfl) (fun ho H4 e1 => ?_) (fun n3 H4 e1 => ?_)
  · subst ho
    have hn := list0 (ak.op.numbers (n := 0) (k := 0) rfl)
    subst hn
    have hc := ak.op.bare (n := 0) rfl
    subst hc
    exact ret_call1 (ev_var rfl) fun H2 e2 => (ak.ex (e1.trans e2)).spC rfl
  replace ak := ak.ex e1
  clear e1
  refine q_op (ev_var rfl) (fun ho H5 e1 => ?_) (fun n4 H5 e1 => ?_)
  · subst ho
    obtain ⟨x, rfl⟩ := list1 (ak.op.numbers (n := 1) (k := 0) rfl)
    have hc := ak.op.bare (n := 1) rfl
    subst hc
    exact ret_call2 (ev_var rfl) ((ak.ex e1).ev (j := 0) (ev_var rfl) rfl) fun H2 e2 => ⟨x, (ak.ex (e1.trans e2)).spC rfl⟩
  replace ak := ak.ex e1
  clear e1
  refine q_op (ev_var rfl) (fun ho H6 e1 => ?_) (fun n5 H6 e1 => ?_)
  · subst ho
    have hn := list0 (ak.op.numbers (n := 0) (k := 0) rfl)
    subst hn
    have hc := ak.op.bare (n := 0) rfl
    subst hc
    exact ret_call1 (ev_var rfl) fun H2 e2 => (ak.ex (e1.trans e2)).spC rfl
  replace ak := ak.ex e1
  clear e1
  have ho : op = 19 := by omega
  subst ho
  have hn := list0 (ak.op.numbers (n := 0) (k := 0) rfl)
  subst hn
  have hc := ak.op.bare (n := 0) rfl
  subst hc
  exact ret_call1 (ev_var rfl) fun H2 e2 => (ak.ex e2).spC rfl
/-! ### the calls about packets alone -/
theorem RetStep.retL {H : Hp} {G : NG} {s : Vbxlac.State} {ans : List Int} {Q : VK} (r : RetStep A W H G s s ans Q) (hN : NetAt A H G s) : RetL (ansV ans) H Q := fun q H2 nq e2 h2 => r q G H2 (Step.ofEx hN e2) nq (hN.fresh nq) h2
def sp_answer_packet_call (K : PySem.W.Frag) (A : Ads) : Sp := fun vs H Q _ => ∃ (W : Addr → Prop) (G : NG) (s : Vbxlac.State) (k : Nat) (c : List (List Int)) (op : Int) (ns row : List Int) (an ar : Addr), vs = [.int op, .ref an, .ref ar] ∧ (op = 15 ∨ op = 16) ∧ Ask A W H G s k c op ns row an ar Q
theorem len_answer_packet_call : ∀ vs H Q E, sp_answer_packet_call K A vs H Q E → vs.length = (["operation", "numbers", "row"] : List Str).length := by
  rintro vs H Q E ⟨W, G, s, k, c, op, ns, row, an, ar, rfl, _⟩
  rfl
def t_answer_packet_call (K : PySem.W.Frag) (A : Ads) : TS :=
 tSeq (tIfS (tTest (tOp (rEq) (tVar 0) (tC (.int 15))))
 (tRet (tCall (sp_write_packet K A) [] E0 (tCons (tOp (rIxL K) (tVar 1) (tC (.int 0))) (tCons (tOp (rIxL K) (tVar 1) (tC (.int 1))) (tCons (tOp (rIxL K) (tVar 1) (tC (.int 2))) (tCons (tOp (rIxL K) (tVar 1) (tC (.int 3))) (tCons (tVar 2) (tNil))))))))
 (tNext))
 (tRet (tCall (sp_read_packet K A) [] E0 (tCons (tVar 2) (tNil))))
theorem pure_answer_packet_call (T : Txt K mg A) (vs : List V) (H : Hp) (Q : VK) (E : XK) (h : sp_answer_packet_call K A vs H Q E) : t_answer_packet_call K A { nx := fun _ H' => Q .non H', rt := Q } (start ["operation", "numbers", "row"] vs) H := by
  obtain ⟨W, G, s, k, c, op, ns, row, an, ar, rfl, lohi, ak⟩ := h
  refine q_op (ev_var rfl) (fun ho H1 e1 => ?_) (fun n0 H1 e1 => ?_)
  · subst ho
    obtain ⟨x, y, z, u, rfl⟩ := list4 (ak.op.numbers (n := 4) (k := 1) rfl)
    have hc := ak.op.rowed (n := 4) rfl
    subst hc
    refine ret_call5 ((ak.ex e1).ev (j := 0) (ev_var rfl) rfl) ((ak.ex e1).ev (j := 1) (ev_var rfl) rfl) ((ak.ex e1).ev (j := 2) (ev_var rfl) rfl) ((ak.ex e1).ev (j := 3) (ev_var rfl) rfl) (ev_var rfl) fun H2 e2 => ?_
    have ak2 := ak.ex (e1.trans e2)
    exact ⟨x, y, z, u, row, ar, rfl, ak2.back, ak2.room, ((ak2.retC rfl).of (resOf_write s x y z u row)).retL ak2.net⟩
  replace ak := ak.ex e1
  clear e1
  have ho : op = 16 := by omega
  subst ho
  have hn := list0 (ak.op.numbers (n := 0) (k := 1) rfl)
  subst hn
  have hc := ak.op.rowed (n := 0) rfl
  subst hc
  refine ret_call1 (ev_var rfl) fun H2 e2 => ?_
  have ak2 := ak.ex e2
  exact ⟨row, ar, rfl, ak2.back, ak2.room, ((ak2.retC rfl).of (resOf_read s row)).retL ak2.net⟩
end Sur
namespace Sur
open PySem PySem.Spec PyProof.Rows L2 Evl
variable {P : Program} {w : World} {K : PySem.W.Frag} {mg : Str → Option Value} {base : Heap} {A : Ads} {W : Addr → Prop}
/-! ## The calls answered in order -/
def after : Vbxlac.State → List (List (List Int)) → Vbxlac.State
  | s, [] => s
  | s, c :: r => after (Vbxlac.step s c).1 r
theorem after_app (s : Vbxlac.State) : ∀ (l r : List (List (List Int))), after s (l ++ r) = after (after s l) r
  | [], _ => rfl
  | c :: l, r => after_app (Vbxlac.step s c).1 l r
theorem played_app (s : Vbxlac.State) : ∀ (l r : List (List (List Int))), PyFlat.played Vbxlac.step s (l ++ r) = PyFlat.played Vbxlac.step s l ++ PyFlat.played Vbxlac.step (after s l) r
  | [], _ => rfl
  | c :: l, r => congrArg ((Vbxlac.step s c).2 :: ·) (played_app (Vbxlac.step s c).1 l r)
theorem told_app (a b : List (List Int)) : PyFlat.told (a ++ b) = PyFlat.told a ++ PyFlat.told b := List.flatMap_append ..
/-- told of the first i calls -/
def toldAt (cs : List (List (List Int))) (i : Nat) : List Int := PyFlat.told (PyFlat.played Vbxlac.step Vbxlac.start (cs.take i))
def stateAt (cs : List (List (List Int))) (i : Nat) : Vbxlac.State := after Vbxlac.start (cs.take i)
section
variable {cs : List (List (List Int))} {i : Nat} {c : List (List Int)}
theorem stateAt_next (h : cs[i]? = some c) : stateAt cs (i + 1) = (Vbxlac.step (stateAt cs i) c).1 := by
  unfold stateAt
  rw [take_snoc h, after_app] <;> rfl
theorem toldAt_next (h : cs[i]? = some c) : toldAt cs (i + 1) = toldAt cs i ++ (((Vbxlac.step (stateAt cs i) c).2.length : Int) :: (Vbxlac.step (stateAt cs i) c).2) := by
  unfold toldAt stateAt
  rw [take_snoc h, played_app, told_app]
  congr 1
  show _ ++ [] = _
  rw [List.append_nil] <;> rfl
theorem toldAt_len (cs : List (List (List Int))) (i : Nat) : (toldAt cs i).length ≤ (toldAt cs cs.length).length := by
  have e : toldAt cs cs.length = PyFlat.told (PyFlat.played Vbxlac.step Vbxlac.start (cs.take i ++ cs.drop i)) := by
    unfold toldAt
    rw [List.take_length, List.take_append_drop]
  rw [e, played_app, told_app, List.length_append]
  exact Nat.le_add_right _ _
theorem goodAt (cs : List (List (List Int))) : ∀ i, i ≤ cs.length → Good i (stateAt cs i)
  | 0, _ => Good.start
  | i + 1, h => by
    rw [stateAt_next (List.getElem?_eq_getElem (show i < cs.length by omega))]
    exact (goodAt cs i (by omega)).step _
end
/-! ### what is asked -/
theorem whole_is (c : List (List Int)) : PyVbxlac.whole c = c := by
  unfold PyVbxlac.whole
  split <;> rfl
theorem asked_row {c : List (List Int)} {op : Int} {ns row : List Int} (h : VbxlacNeutral.asked1 c = true) (ho : Op c op ns row) : row.length ≤ 60 := by
  have li : ∀ l, VbxlacNeutral.isList l = true → l.length ≤ 60 := fun l z => by
    unfold VbxlacNeutral.isList at z
    rw [Bool.and_eq_true, decide_eq_true_eq] at z
    exact z.1
  rcases ho with ⟨_, hr, _⟩ | ⟨hc, _⟩
  · rw [hr]
    exact Nat.zero_le _
  · subst hc
    unfold VbxlacNeutral.asked1 at h
    split at h <;> rename_i e <;> first
      | (exfalso; simp at e; done)
      | (exact absurd h Bool.false_ne_true)
      | (simp only [List.cons.injEq, and_true] at e
         obtain ⟨_, rfl⟩ := e
         first
           | exact li _ h
           | (simp only [Bool.and_eq_true] at h
              first
                | exact li _ h.2.2
                | exact li _ h.2.2.2.2))
structure Asked (l : List Int) (cs : List (List (List Int))) : Prop where
  calls : PyFlat.calls PyVbxlac.shape l.length l = some cs
  few : cs.length ≤ 200
  row : ∀ c ∈ cs, ∀ op ns row, Op c op ns row → row.length ≤ 60
  op : ∀ c ∈ cs, ∃ p ms xs, c = (p :: ms) :: xs ∧ PyVbxlac.shape p = some (ms.length, xs.length)
  room : l.length ≤ 14000
  told : PyVbxlac.answers l = toldAt cs cs.length
  short : (toldAt cs cs.length).length ≤ 10000000
theorem shape_small {p : Int} {n k : Nat} (h : PyVbxlac.shape p = some (n, k)) : n ≤ 4 ∧ k ≤ 1 := by
  obtain ⟨p0, p1, hc, hk⟩ := shape_is h
  constructor
  · exact (by decide : ∀ x ∈ counts, x ≤ 4) n (List.mem_of_getElem? hc)
  · rw [hk]
    split <;> decide
theorem put_room : ∀ (cs : List (List (List Int))), (∀ c ∈ cs, (PyFlat.put1 c).length ≤ 70) → (PyFlat.put cs).length ≤ 70 * cs.length
  | [], _ => Nat.le_refl _
  | c :: cs, h => by
    have := put_room cs fun d hd => h d (List.mem_cons_of_mem _ hd)
    have := h c (List.mem_cons_self ..)
    show (PyFlat.put1 c ++ PyFlat.put cs).length ≤ 70 * (cs.length + 1)
    rw [List.length_append]
    omega
theorem asked_is {l : List Int} (h : PyVbxlac.answers_asked l = true) : ∃ cs, Asked l cs := by
  unfold PyVbxlac.answers_asked at h
  cases hcs : PyFlat.calls PyVbxlac.shape l.length l with
  | none =>
    rw [hcs] at h
    exact absurd h Bool.false_ne_true
  | some cs =>
    rw [hcs] at h
    simp only [Bool.and_eq_true] at h
    obtain ⟨⟨⟨⟨h1, h2⟩, h3⟩, h4⟩, h5⟩ := h
    have hw : cs.map PyVbxlac.whole = cs := by
      have : PyVbxlac.whole = id := funext whole_is
      rw [this, List.map_id]
    rw [hw] at h4
    obtain ⟨hput, hok⟩ := PyFlat.put_calls _ _ _ hcs
    have few : cs.length ≤ 200 := of_decide_eq_true h2
    have a1 : ∀ c ∈ cs, VbxlacNeutral.asked1 c = true := by
      unfold VbxlacNeutral.asked at h4
      rw [Bool.and_eq_true] at h4
      exact List.all_eq_true.mp h4.1
    have row : ∀ c ∈ cs, ∀ op ns row, Op c op ns row → row.length ≤ 60 := fun c hc op ns row ho => asked_row (a1 c hc) ho
    have told : PyVbxlac.answers l = toldAt cs cs.length := by
      unfold PyVbxlac.answers PyVbxlac.calls toldAt
      rw [hcs]
      simp only
      rw [hw, List.take_length] <;> rfl
    refine ⟨cs, hcs, few, row, hok, ?_, told, ?_⟩
    · rw [hput]
      refine Nat.le_trans (put_room cs fun c hc => ?_) (show 70 * cs.length ≤ 14000 by omega)
      obtain ⟨p, ms, xs, rfl, hsh⟩ := hok c hc
      obtain ⟨m4, x1⟩ := shape_small hsh
      match xs, x1 with
      | [], _ =>
        show (p :: ms ++ []).length ≤ 70
        rw [List.append_nil, List.length_cons]
        omega
      | [row'], _ =>
        have r60 := row _ hc p ms row' (.inr ⟨rfl, hsh⟩)
        show (p :: ms ++ (PyFlat.putRow row' ++ [])).length ≤ 70
        rw [List.append_nil, List.length_append, List.length_cons]
        show ms.length + 1 + ((row'.length : Int) :: row').length ≤ 70
        rw [List.length_cons]
        omega
    · rw [← told]
      exact of_decide_eq_true h5
/-! ### the loop -/
def sp_answer_call (K : PySem.W.Frag) (A : Ads) : Sp := fun vs H Q _ => ∃ (W : Addr → Prop) (G : NG) (s : Vbxlac.State) (k : Nat) (c : List (List Int)) (op : Int) (ns row : List Int) (b an ar : Addr), vs = [.ref (G.ad .net), .ref b] ∧ CallAt A H b an ar op ns row ∧ Ask A W H G s k c op ns row an ar Q
theorem len_answer_call : ∀ vs H Q E, sp_answer_call K A vs H Q E → vs.length = (["network", "call"] : List Str).length := by
  rintro vs H Q E ⟨W, G, s, k, c, op, ns, row, b, an, ar, rfl, _⟩
  rfl
def t_answer_call (K : PySem.W.Frag) (A : Ads) : TS :=
 tSeq (tIfS (tTest (tOp (rIn K false) (tFld K (tVar 1) "operation") (tC (.ref A.k_CHANGES))))
 (tRet (tCall (sp_answer_change K A) [] E0 (tCons (tVar 0) (tCons (tFld K (tVar 1) "operation") (tCons (tFld K (tVar 1) "numbers") (tCons (tFld K (tVar 1) "row") (tNil)))))))
 (tNext))
 (tSeq (tIfS (tTest (tOp (rIn K false) (tFld K (tVar 1) "operation") (tC (.ref A.k_PACKET_CALLS))))
 (tRet (tCall (sp_answer_packet_call K A) [] E0 (tCons (tFld K (tVar 1) "operation") (tCons (tFld K (tVar 1) "numbers") (tCons (tFld K (tVar 1) "row") (tNil))))))
 (tNext))
 (tRet (tCall (sp_answer_look K A) [] E0 (tCons (tVar 0) (tCons (tFld K (tVar 1) "operation") (tCons (tFld K (tVar 1) "numbers") (tNil)))))))
def spAns (K : PySem.W.Frag) : Sp := fun vs H Q _ => ∃ (a : Addr) (l : List Int), vs = [.ref a] ∧ SqL K H a (ansV l) ∧ PyVbxlac.answers_asked l = true ∧ ∀ (H2 : Hp) (q : Addr), H2 q = some (.lst (ansV (PyVbxlac.answers l))) → Q (.ref q) H2
def sp_answers (K : PySem.W.Frag) (A : Ads) : Sp := spAns K
theorem len_answers : ∀ vs H Q E, sp_answers K A vs H Q E → vs.length = (["calls"] : List Str).length := by
  rintro vs H Q E ⟨a, l, rfl, _⟩
  rfl
def t_answers (K : PySem.W.Frag) (A : Ads) : TS :=
 tSeq (tAsg (tMake A.c_Network (sp_Network_init K A) [] E0 tNil) (gName 1))
 (tSeq (tAsg (tLst (tNil)) (gName 2))
 (tSeq (tFor (iList K (tCall (sp_split_calls K A) [] E0 (tCons (tVar 0) (tNil)))) (gName 3)
 (tSeq (tAsg (tCall (sp_answer_call K A) [] E0 (tCons (tVar 1) (tCons (tVar 3) (tNil)))) (gName 4))
 (tSeq (tDrop (tBM K "list" rAppend (tVar 2) (tCons (tCB (rLenS K) (tCons (tVar 4) (tNil))) (tNil))))
 (tDrop (tBM K "list" rExtend (tVar 2) (tCons (tVar 4) (tNil)))))))
 (tRet (tVar 2))))
structure Turn (A : Ads) (cs : List (List (List Int))) (a n t F : Addr) (as : List Addr) (i : Nat) (G : NG) (H : Hp) : Prop where
  le : i ≤ cs.length
  net : NetAt A H G (stateAt cs i)
  at_ : G.ad .net = n
  outT : Out G (stateAt cs i) t
  outF : Out G (stateAt cs i) F
  pz : ¬ Pz G (stateAt cs i) t
  tF : t ≠ F
  lenA : as.length = cs.length
  told : H t = some (.lst (ansV (toldAt cs i)))
  list : H F = some (.lst (as.map .ref))
  calls : ∀ (j : Nat) (b : Addr) (c : List (List Int)), as[j]? = some b → cs[j]? = some c → CallIs A (fun x => Out G (stateAt cs i) x ∧ x ≠ t) H b c
theorem ansV_app_told {cs : List (List (List Int))} {i : Nat} {c : List (List Int)} (h : cs[i]? = some c) :
    ansV (toldAt cs (i + 1)) = ansV (toldAt cs i) ++ ([.int ((ansV (Vbxlac.step (stateAt cs i) c).2).length : Int)] ++ ansV (Vbxlac.step (stateAt cs i) c).2) := by
  rw [toldAt_next h]
  unfold ansV
  rw [List.map_append, List.length_map] <;> rfl
theorem ansV_app (a b : List Int) : ansV (a ++ b) = ansV a ++ ansV b := List.map_append ..
theorem CallIs.carry {N N' : Addr → Prop} {H H' : Hp} {a : Addr} {c : List (List Int)} (h : CallIs A N H a c) (e : ∀ b o, H b = some o → N b → H' b = some o ∧ N' b) : CallIs A N' H' a c := by
  obtain ⟨an, ar, op, ns, row, ⟨⟨dx, h1⟩, h2, h3⟩, n1, n2, n3, h5⟩ := h
  exact ⟨an, ar, op, ns, row, ⟨⟨dx, (e _ _ h1 n1).1⟩, (e _ _ h2 n2).1, (e _ _ h3 n3).1⟩, (e _ _ h1 n1).2, (e _ _ h2 n2).2, (e _ _ h3 n3).2, h5⟩
theorem Turn.ex {cs : List (List (List Int))} {a n t F : Addr} {as : List Addr} {i : Nat} {G : NG} {H H' : Hp} (h : Turn A cs a n t F as i G H) (e : Ex H H') : Turn A cs a n t F as i G H' :=
  ⟨h.le, h.net.ex e, h.at_, h.outT, h.outF, h.pz, h.tF, h.lenA, e _ _ h.told, e _ _ h.list, fun j b c hb hc => (h.calls j b c hb hc).ex e⟩
theorem pure_answers (T : Txt K mg A) (vs : List V) (H : Hp) (Q : VK) (E : XK) (h : sp_answers K A vs H Q E) : t_answers K A { nx := fun _ H' => Q .non H', rt := Q } (start ["calls", "network", "told", "call", "answer"] vs) H := by
  obtain ⟨a, l, rfl, hs, hask, k⟩ := h
  obtain ⟨cs, as0⟩ := asked_is hask
  rw [as0.told] at k
  refine q_tAsg ?_
  intro n dx nn nd ne
  refine ⟨n, dx, rfl, upd_same, fun G0 H1 hn hN0 keep => ⟨rfl, ?_⟩⟩
  have e1 : Ex H H1 := fun b o hb => (keep b o (by rw [upd_ne (ne_of_none hb nn), upd_ne (ne_of_none hb nd)]; exact hb) (ne_of_none hb nn)).1
  refine q_asgL (el_lst ea_nil (by decide)) fun t H2 nt e2 h2 => ?_
  have e12 := e1.trans e2
  have hN2 := hN0.ex e2
  have pz0 : ¬ Pz G0 Vbxlac.start t := fun ⟨i, _, _, hi, _⟩ => absurd hi (Nat.not_lt_zero _)
  refine ⟨_, rfl, a, l, cs, rfl, ex_l e12 hs, as0.room, as0.calls, fun F as H3 nF la hc e3 hF => ⟨F, rfl, ⟨_, sq_of hF⟩, ?_⟩⟩
  have tF : t ≠ F := fun z => by rw [← z, h2] at nF; cases nF
  refine for_list (fun i σ' H' => ∃ G x3 x4, Turn A cs a n t F as i G H' ∧ σ' = [some (.ref a), some (.ref n), some (.ref t), x3, x4])
    ⟨G0, none, none, ⟨Nat.zero_le _, hN2.ex e3, hn, hN0.fresh nt, hN2.fresh nF, pz0, tF, la, e3 _ _ h2, hF, fun j b c hb hcj => (hc j b c hb hcj).weak fun x hx => ⟨hN2.fresh hx, fun z => by rw [z, h2] at hx; cases hx⟩⟩, rfl⟩
    (fun i σ' H' _ ⟨G, x3, x4, tn, _⟩ => sq_of tn.list) ?_ ?_
  · rintro i v σ' H' hi ⟨G, x3, x4, tn, rfl⟩
    obtain ⟨b, hb, rfl⟩ : ∃ b, as[i]? = some b ∧ v = .ref b := by
      rw [List.getElem?_map] at hi
      cases hb : as[i]? with
      | none => rw [hb] at hi; cases hi
      | some b => rw [hb] at hi; exact ⟨b, rfl, (Option.some.inj hi).symm⟩
    have hil : i < cs.length := by
      have := (List.getElem?_eq_some_iff.mp hb).1
      rw [← tn.lenA]
      exact this
    obtain ⟨c, hci⟩ : ∃ c, cs[i]? = some c := ⟨_, List.getElem?_eq_getElem hil⟩
    have hcm : c ∈ cs := List.mem_of_getElem? hci
    obtain ⟨an, ar, op, ns, row, hca, n1, n2, n3, hcase⟩ := tn.calls i b c hb hci
    have ho : Op c op ns row := op_of hcase (as0.op c hcm)
    have few := as0.few
    have hgd := goodAt cs i tn.le
    have hlen := toldAt_len cs (i + 1)
    have hshort := as0.short
    rw [toldAt_next hci, List.length_append, List.length_cons] at hlen
    refine q_tAsg ?_
    refine ⟨_, rfl, _, rfl, fun x => x ≠ t, G, stateAt cs i, i, c, op, ns, row, b, an, ar, by rw [tn.at_]; rfl, hca, ho, hca.2.1, hca.2.2, Nat.le_trans (as0.row c hcm op ns row ho) (by decide), n3.1, n3.2, tn.net, hgd, by omega, fun x hx z => (by rw [z, tn.told] at hx; cases hx), fun q G' H4 st nq oq hq => ?_⟩
    rw [← stateAt_next hci] at st oq
    have nqt : q ≠ t := fun z => by rw [z, tn.told] at nq; cases nq
    have oT : Out G' (stateAt cs (i + 1)) t := (st.2.2.1 t _ tn.told tn.outT).2
    have told4 : H4 t = some (.lst (ansV (toldAt cs i))) := (st.2.2.1 t _ tn.told tn.outT).1
    have pz4 : ¬ Pz G' (stateAt cs (i + 1)) t := fun z => (st.2.2.2.2 t z).elim tn.pz fun y => y rfl
    have lq : (ansV (toldAt cs i)).length = (toldAt cs i).length := List.length_map ..
    have lA : (ansV (Vbxlac.step (stateAt cs i) c).2).length = (Vbxlac.step (stateAt cs i) c).2.length := List.length_map ..
    -- told.append(len(answer))
    refine q_tDrop ⟨_, rfl, Or.inl ⟨rfl, _, sq_of told4⟩, ?_⟩
    refine ev_len (ev_var rfl) (sq_of hq) H4 (Ex.refl H4) _ fun H5 e5 => ?_
    refine ⟨t, _, _, rfl, rfl, e5 _ _ told4, ?_, ?_⟩
    · rw [lq]
      exact Nat.lt_of_le_of_lt (show _ ≤ 10000000 by omega) (by decide)
    have told6 : (upd H5 t (.lst (ansV (toldAt cs i) ++ [.int ((ansV (Vbxlac.step (stateAt cs i) c).2).length : Int)]))) t = _ := upd_same
    have hq6 : (upd H5 t (.lst (ansV (toldAt cs i) ++ [.int ((ansV (Vbxlac.step (stateAt cs i) c).2).length : Int)]))) q = _ := (upd_ne nqt).trans (e5 _ _ hq)
    refine s_ext told6 (ev_var rfl) (ev_var rfl) hq6 ?_ fun H7 e7 => ?_
    · rw [List.length_append, lq, lA]
      show (toldAt cs i).length + 1 + _ ≤ _
      exact Nat.le_trans (show _ ≤ 10000000 by omega) (by decide)
    rw [List.append_assoc, ← ansV_app_told hci]
    have kp : ∀ x o, H' x = some o → Out G (stateAt cs i) x → x ≠ t → (upd H7 t (.lst (ansV (toldAt cs (i + 1))))) x = some o := fun x o hx ox nx =>
      (upd_ne nx).trans (e7 _ _ ((upd_ne nx).trans (e5 _ _ (st.2.2.1 x o hx ox).1)))
    exact ⟨G', _, _, ⟨hil, (((st.1.ex e5).aside oT pz4).ex e7).aside oT pz4, st.2.1.trans tn.at_, oT, (st.2.2.1 F _ tn.list tn.outF).2, pz4, tn.tF, tn.lenA, upd_same, kp F _ tn.list tn.outF (fun z => tn.tF z.symm),
      fun j b c hb hc => (tn.calls j b c hb hc).carry fun x o hx hN => ⟨kp x o hx hN.1 hN.2, (st.2.2.1 x o hx hN.1).2, hN.2⟩⟩, rfl⟩
  · rintro σ' H' ⟨G, x3, x4, tn, rfl⟩
    refine s_ret (ev_var rfl) fun H4 e4 => k H4 t (e4 _ _ ?_)
    have := tn.told
    rw [List.length_map, la] at this
    exact this
end Sur
namespace Sur
open PySem PySem.Spec PyProof.Rows L2 Evl
variable {P : Program} {w : World} {K : PySem.W.Frag} {mg : Str → Option Value} {base : Heap} {A : Ads} {W : Addr → Prop}
/-! ## A call answered -/
theorem inV_int (op : Int) : ∀ ns : List Int, inV (.int op) (ns.map V.int) = true ↔ op ∈ ns := fun ns => by
  unfold inV
  rw [List.any_map, List.any_eq_true]
  constructor
  · rintro ⟨x, hx, e⟩
    have : x = op := by simpa [eqV] using e
    exact this ▸ hx
  · intro h
    exact ⟨op, h, by simp [eqV]⟩
theorem sq_changes (T : Txt K mg A) {H : Hp} : SqT K H A.k_CHANGES [.int 0, .int 1, .int 2, .int 3, .int 4, .int 5, .int 6, .int 7, .int 8, .int 9, .int 17] := .inr T.t_CHANGES
theorem sq_packet_calls (T : Txt K mg A) {H : Hp} : SqT K H A.k_PACKET_CALLS [.int 15, .int 16] := .inr T.t_PACKET_CALLS
theorem pure_answer_call (T : Txt K mg A) (vs : List V) (H : Hp) (Q : VK) (E : XK) (h : sp_answer_call K A vs H Q E) : t_answer_call K A { nx := fun _ H' => Q .non H', rt := Q } (start ["network", "call"] vs) H := by
  obtain ⟨W, G, s, k, c, op, ns, row, b, an, ar, rfl, hc, ak⟩ := h
  have fo : ∀ {H' : Hp}, Ex H H' → Ev (tFld K (tVar 1) "operation") [some (.ref (G.ad .net)), some (.ref b)] H' (.int op) := fun e => by
    obtain ⟨⟨dx, h1⟩, _, _⟩ := hc.ex e
    exact ev_fld (ev_var rfl) h1 T.cl_Call T.n_Call_operation fl_Call_operation
  have fn : ∀ {H' : Hp}, Ex H H' → Ev (tFld K (tVar 1) "numbers") [some (.ref (G.ad .net)), some (.ref b)] H' (.ref an) := fun e => by
    obtain ⟨⟨dx, h1⟩, _, _⟩ := hc.ex e
    exact ev_fld (ev_var rfl) h1 T.cl_Call T.n_Call_numbers fl_Call_numbers
  have fr : ∀ {H' : Hp}, Ex H H' → Ev (tFld K (tVar 1) "row") [some (.ref (G.ad .net)), some (.ref b)] H' (.ref ar) := fun e => by
    obtain ⟨⟨dx, h1⟩, _, _⟩ := hc.ex e
    exact ev_fld (ev_var rfl) h1 T.cl_Call T.n_Call_row fl_Call_row
  refine q_when (et_test (ev_op (fo (Ex.refl H)) ev_c (rv_isT (sq_changes T) rfl rfl))) (fun hb H1 e1 => ?_) (fun hb H1 e1 => ?_)
  · refine ret_call4 (ev_var rfl) (fo e1) (fn e1) (fr e1) fun H2 e2 => ?_
    refine ⟨W, G, s, k, c, op, ns, row, an, ar, rfl, ?_, ak.ex (e1.trans e2)⟩
    have := (inV_int op [0, 1, 2, 3, 4, 5, 6, 7, 8, 9, 17]).mp hb
    simp at this
    omega
  refine q_when (et_test (ev_op (fo e1) ev_c (rv_isT (sq_packet_calls T) rfl rfl))) (fun hc' H2 e2 => ?_) (fun hc' H2 e2 => ?_)
  · refine ret_call3 (fo (e1.trans e2)) (fn (e1.trans e2)) (fr (e1.trans e2)) fun H3 e3 => ?_
    refine ⟨W, G, s, k, c, op, ns, row, an, ar, rfl, ?_, ak.ex ((e1.trans e2).trans e3)⟩
    have := (inV_int op [15, 16]).mp hc'
    simp at this
    omega
  · refine ret_call3 (ev_var rfl) (fo (e1.trans e2)) (fn (e1.trans e2)) fun H3 e3 => ?_
    refine ⟨W, G, s, k, c, op, ns, row, an, ar, rfl, ?_, ak.ex ((e1.trans e2).trans e3)⟩
    have rg := ak.op.range
    have h1 : ¬ op ∈ ([0, 1, 2, 3, 4, 5, 6, 7, 8, 9, 17] : List Int) := fun z => by
      have := (inV_int op [0, 1, 2, 3, 4, 5, 6, 7, 8, 9, 17]).mpr z
      exact Bool.false_ne_true (hb.symm.trans this)
    have h2 : ¬ op ∈ ([15, 16] : List Int) := fun z => by
      have := (inV_int op [15, 16]).mpr z
      exact Bool.false_ne_true (hc'.symm.trans this)
    simp at h1 h2
    omega
end Sur
namespace Sur
open PySem PySem.Spec PyProof.Rows L2 Evl
section
variable {P : Program} {w : World} {K : PySem.W.Frag} {mg : Str → Option Value} {base : Heap} {A : Ads}
theorem ok_Call_init (T : Txt K mg A) : Ok P w K mg base 1 A.f_Call_init ["self", "operation", "numbers", "row"] (sp_Call_init K A) :=
  T.f_Call_init.ok sc_Call_init (len_Call_init) (fun cdv Ar outer s H vs Q E hr h => ⟨t_Call_init K A,
 pss_cons (ps_fld (pv 0) (pv 1) rfl)
 (pss_cons (ps_fld (pv 0) (pv 2) rfl)
 (pss_one (ps_fld (pv 0) (pv 3) rfl))),
 pure_Call_init T vs H Q E h⟩)
theorem ok_split_calls (T : Txt K mg A) : Ok P w K mg base 3 A.f_split_calls ["calls"] (sp_split_calls K A) :=
  T.f_split_calls.ok sc_split_calls (len_split_calls) (fun cdv Ar outer s H vs Q E hr h => ⟨t_split_calls K A,
 pss_cons (ps_set (i := 1) sc_split_calls.nd rfl (by first | exact Or.inl rfl | exact Or.inr rfl) (pe_lst (pa_nil)))
 (pss_cons (ps_set (i := 2) sc_split_calls.nd rfl (by first | exact Or.inl rfl | exact Or.inr rfl) (pe_int))
 (pss_cons (ps_while PassesOwn.never (pt_cmpR (op_lt) (pv 2) (pe_callB call_len_seq (by rfl) T.b_len PySem.boot_len (pa_cons (pv 0) (pa_nil))) (nomark _))
 (pss_cons (ps_set (i := 3) sc_split_calls.nd rfl (by first | exact Or.inl rfl | exact Or.inr rfl) (pe_ix ix_list (pv 0) (pv 2) (fun _ _ => rfl)))
 (pss_cons (ps_set (i := 4) sc_split_calls.nd rfl (by first | exact Or.inl rfl | exact Or.inr rfl) (pe_op op_add (pe_op op_add (pv 2) (pe_int)) (pe_ix ix_tup (pe_glob (by rfl) T.g_NUMBER_COUNTS rfl) (pv 3) (fun _ _ => rfl))))
 (pss_cons (ps_set (i := 5) sc_split_calls.nd rfl (by first | exact Or.inl rfl | exact Or.inr rfl) (pe_slice sl_list (pv 0) (po_some (pe_op op_add (pv 2) (pe_int))) (po_some (pv 4))))
 (pss_cons (ps_set (i := 6) sc_split_calls.nd rfl (by first | exact Or.inl rfl | exact Or.inr rfl) (pe_lst (pa_nil)))
 (pss_cons (ps_if (pt_cmpR (op_in_seq) (pv 3) (pe_glob (by rfl) T.g_WITH_LIST rfl) (by rfl))
 (pss_cons (ps_set (i := 7) sc_split_calls.nd rfl (by first | exact Or.inl rfl | exact Or.inr rfl) (pe_op op_add (pv 4) (pe_int)))
 (pss_cons (ps_set (i := 4) sc_split_calls.nd rfl (by first | exact Or.inl rfl | exact Or.inr rfl) (pe_op op_add (pv 7) (pe_ix ix_list (pv 0) (pv 4) (fun _ _ => rfl))))
 (pss_one (ps_set (i := 6) sc_split_calls.nd rfl (by first | exact Or.inl rfl | exact Or.inr rfl) (pe_slice sl_list (pv 0) (po_some (pv 7)) (po_some (pv 4)))))))
 (pss_nil))
 (pss_cons (ps_expr (pe_bm PySem.F.plainAttrs_list PySem.F.slot_list_append PySem.F.type_list_append mt_append (pv 1) (pa_cons (pe_makeO T.m_Call (ok_Call_init T) (hr.mono (by decide)) (by rfl) T.g_Call (pa_cons (pv 3) (pa_cons (pv 5) (pa_cons (pv 6) (pa_nil))))) (pa_nil))))
 (pss_one (ps_set (i := 2) sc_split_calls.nd rfl (by first | exact Or.inl rfl | exact Or.inr rfl) (pv 4))))))))))
 (pss_one (ps_ret (pv 1))))),
 pure_split_calls T vs H Q E h⟩)
theorem ok_SiteCopy_init (T : Txt K mg A) : Ok P w K mg base 1 A.f_SiteCopy_init ["self", "site_count"] (sp_SiteCopy_init K A) :=
  T.f_SiteCopy_init.ok sc_SiteCopy_init (len_SiteCopy_init) (fun cdv Ar outer s H vs Q E hr h => ⟨t_SiteCopy_init K A,
 pss_cons (ps_fld (pv 0) (pe_lc (own := [("place", 2)]) (g := gName 2) (tt := tYes) rfl sc_SiteCopy_init.nd (pi_range1 (by rfl) T.b_range (pa_cons (pe_op op_add (pv 1) (pe_int)) (pa_nil))) (blkOk_by (own := [("place", 2)]) (N := ["self", "site_count", "place"]) (sc := defScope s_SiteCopy_init) (by decide +kernel)) (fun _ _ _ _ _ => pg_name (i := 2) sc_SiteCopy_init.nd rfl (Or.inl rfl)) (fun _ _ _ _ _ => pts_nil) (fun _ _ _ _ _ => pe_lst (pa_nil))) rfl)
 (pss_cons (ps_fld (pv 0) (pe_lc (own := [("place", 2)]) (g := gName 2) (tt := tYes) rfl sc_SiteCopy_init.nd (pi_range1 (by rfl) T.b_range (pa_cons (pe_op op_add (pv 1) (pe_int)) (pa_nil))) (blkOk_by (own := [("place", 2)]) (N := ["self", "site_count", "place"]) (sc := defScope s_SiteCopy_init) (by decide +kernel)) (fun _ _ _ _ _ => pg_name (i := 2) sc_SiteCopy_init.nd rfl (Or.inl rfl)) (fun _ _ _ _ _ => pts_nil) (fun _ _ _ _ _ => pe_int)) rfl)
 (pss_one (ps_fld (pv 0) (pe_lc (own := [("place", 2)]) (g := gName 2) (tt := tYes) rfl sc_SiteCopy_init.nd (pi_range1 (by rfl) T.b_range (pa_cons (pe_op op_add (pv 1) (pe_int)) (pa_nil))) (blkOk_by (own := [("place", 2)]) (N := ["self", "site_count", "place"]) (sc := defScope s_SiteCopy_init) (by decide +kernel)) (fun _ _ _ _ _ => pg_name (i := 2) sc_SiteCopy_init.nd rfl (Or.inl rfl)) (fun _ _ _ _ _ => pts_nil) (fun _ _ _ _ _ => pe_lst (pa_nil))) rfl))),
 pure_SiteCopy_init T vs H Q E h⟩)
theorem ok_SiteCopy_sent_count (T : Txt K mg A) : Ok P w K mg base 1 A.f_SiteCopy_sent_count ["self"] (sp_SiteCopy_sent_count K A) :=
  T.f_SiteCopy_sent_count.ok sc_SiteCopy_sent_count (len_SiteCopy_sent_count) (fun cdv Ar outer s H vs Q E hr h => ⟨t_SiteCopy_sent_count K A,
 pss_one (ps_ret (pe_callB (cr_sum rfl) (by rfl) T.b_sum (by decide +kernel) (pa_cons (pe_lc (own := [("messages", 1)]) (g := gName 1) (tt := tYes) rfl sc_SiteCopy_sent_count.nd (pi_list (pe_fld (pv 0) rfl)) (blkOk_by (own := [("messages", 1)]) (N := ["self", "messages"]) (sc := defScope s_SiteCopy_sent_count) (by decide +kernel)) (fun _ _ _ _ _ => pg_name (i := 1) sc_SiteCopy_sent_count.nd rfl (Or.inl rfl)) (fun _ _ _ _ _ => pts_nil) (fun _ _ _ _ _ => pe_callB call_len_seq (by rfl) T.b_len PySem.boot_len (pa_cons (pv 1) (pa_nil)))) (pa_nil)))),
 pure_SiteCopy_sent_count T vs H Q E h⟩)
theorem ok_SiteCopy_received_count (T : Txt K mg A) : Ok P w K mg base 1 A.f_SiteCopy_received_count ["self"] (sp_SiteCopy_received_count K A) :=
  T.f_SiteCopy_received_count.ok sc_SiteCopy_received_count (len_SiteCopy_received_count) (fun cdv Ar outer s H vs Q E hr h => ⟨t_SiteCopy_received_count K A,
 pss_one (ps_ret (pe_callB (cr_sum rfl) (by rfl) T.b_sum (by decide +kernel) (pa_cons (pe_lc (own := [("messages", 1)]) (g := gName 1) (tt := tYes) rfl sc_SiteCopy_received_count.nd (pi_list (pe_fld (pv 0) rfl)) (blkOk_by (own := [("messages", 1)]) (N := ["self", "messages"]) (sc := defScope s_SiteCopy_received_count) (by decide +kernel)) (fun _ _ _ _ _ => pg_name (i := 1) sc_SiteCopy_received_count.nd rfl (Or.inl rfl)) (fun _ _ _ _ _ => pts_nil) (fun _ _ _ _ _ => pe_callB call_len_seq (by rfl) T.b_len PySem.boot_len (pa_cons (pv 1) (pa_nil)))) (pa_nil)))),
 pure_SiteCopy_received_count T vs H Q E h⟩)
theorem ok_SiteCopy_acknowledged_sum (T : Txt K mg A) : Ok P w K mg base 1 A.f_SiteCopy_acknowledged_sum ["self"] (sp_SiteCopy_acknowledged_sum K A) :=
  T.f_SiteCopy_acknowledged_sum.ok sc_SiteCopy_acknowledged_sum (len_SiteCopy_acknowledged_sum) (fun cdv Ar outer s H vs Q E hr h => ⟨t_SiteCopy_acknowledged_sum K A,
 pss_one (ps_ret (pe_callB (cr_sum rfl) (by rfl) T.b_sum (by decide +kernel) (pa_cons (pe_fld (pv 0) rfl) (pa_nil)))),
 pure_SiteCopy_acknowledged_sum T vs H Q E h⟩)
theorem ok_SiteCopy_copied (T : Txt K mg A) : Ok P w K mg base 3 A.f_SiteCopy_copied ["self"] (sp_SiteCopy_copied K A) :=
  T.f_SiteCopy_copied.ok sc_SiteCopy_copied (len_SiteCopy_copied) (fun cdv Ar outer s H vs Q E hr h => ⟨t_SiteCopy_copied K A,
 pss_cons (ps_set (i := 1) sc_SiteCopy_copied.nd rfl (by first | exact Or.inl rfl | exact Or.inr rfl) (pe_makeO T.m_SiteCopy (ok_SiteCopy_init T) (hr.mono (by decide)) (by rfl) T.g_SiteCopy (pa_cons (pe_int) (pa_nil))))
 (pss_cons (ps_fld (pv 1) (pe_lc (own := [("messages", 2)]) (g := gName 2) (tt := tYes) rfl sc_SiteCopy_copied.nd (pi_list (pe_fld (pv 0) rfl)) (blkOk_by (own := [("messages", 2)]) (N := ["self", "twin", "messages"]) (sc := defScope s_SiteCopy_copied) (by decide +kernel)) (fun _ _ _ _ _ => pg_name (i := 2) sc_SiteCopy_copied.nd rfl (Or.inl rfl)) (fun _ _ _ _ _ => pts_nil) (fun _ _ _ _ _ => pe_callTy call_list_of (by rfl) T.b_list (by decide +kernel) (pa_cons (pv 2) (pa_nil)))) rfl)
 (pss_cons (ps_fld (pv 1) (pe_callTy call_list_of (by rfl) T.b_list (by decide +kernel) (pa_cons (pe_fld (pv 0) rfl) (pa_nil))) rfl)
 (pss_cons (ps_fld (pv 1) (pe_lc (own := [("messages", 2)]) (g := gName 2) (tt := tYes) rfl sc_SiteCopy_copied.nd (pi_list (pe_fld (pv 0) rfl)) (blkOk_by (own := [("messages", 2)]) (N := ["self", "twin", "messages"]) (sc := defScope s_SiteCopy_copied) (by decide +kernel)) (fun _ _ _ _ _ => pg_name (i := 2) sc_SiteCopy_copied.nd rfl (Or.inl rfl)) (fun _ _ _ _ _ => pts_nil) (fun _ _ _ _ _ => pe_callTy call_list_of (by rfl) T.b_list (by decide +kernel) (pa_cons (pv 2) (pa_nil)))) rfl)
 (pss_one (ps_ret (pv 1)))))),
 pure_SiteCopy_copied T vs H Q E h⟩)
theorem ok_SiteCopy_equals (T : Txt K mg A) : Ok P w K mg base 1 A.f_SiteCopy_equals ["self", "other"] (sp_SiteCopy_equals K A) :=
  T.f_SiteCopy_equals.ok sc_SiteCopy_equals (len_SiteCopy_equals) (fun cdv Ar outer s H vs Q E hr h => ⟨t_SiteCopy_equals K A,
 pss_cons (ps_if (PW.pt (pw_or (pt_cmpR (op_neD hr.units) (pe_fld (pv 0) rfl) (pe_fld (pv 1) rfl) (nomark _)) (pw_or1 (pt_cmpR (op_neD hr.units) (pe_fld (pv 0) rfl) (pe_fld (pv 1) rfl) (nomark _)))))
 (pss_one (ps_ret (pe_bl)))
 (pss_nil))
 (pss_one (ps_ret (pe_cmpR (op_eqD hr.units) (pe_fld (pv 0) rfl) (pe_fld (pv 1) rfl) (nomark _)))),
 pure_SiteCopy_equals T vs H Q E h⟩)
theorem ok_Site_init (T : Txt K mg A) : Ok P w K mg base 3 A.f_Site_init ["self", "site_count"] (sp_Site_init K A) :=
  T.f_Site_init.ok sc_Site_init (len_Site_init) (fun cdv Ar outer s H vs Q E hr h => ⟨t_Site_init K A,
 pss_cons (ps_fld (pv 0) (pe_makeO T.m_SiteCopy (ok_SiteCopy_init T) (hr.mono (by decide)) (by rfl) T.g_SiteCopy (pa_cons (pv 1) (pa_nil))) rfl)
 (pss_one (ps_fld (pv 0) (pe_makeO T.m_SiteCopy (ok_SiteCopy_init T) (hr.mono (by decide)) (by rfl) T.g_SiteCopy (pa_cons (pv 1) (pa_nil))) rfl)),
 pure_Site_init T vs H Q E h⟩)
theorem ok_Site_at_risk (T : Txt K mg A) : Ok P w K mg base 2 A.f_Site_at_risk ["self"] (sp_Site_at_risk K A) :=
  T.f_Site_at_risk.ok sc_Site_at_risk (len_Site_at_risk) (fun cdv Ar outer s H vs Q E hr h => ⟨t_Site_at_risk K A,
 pss_one (ps_ret (pe_lst (pa_cons (pe_op op_sub (pe_meth0O (pe_fld (pv 0) rfl) T.cl_SiteCopy T.f_SiteCopy_sent_count.m (ok_SiteCopy_sent_count T) (hr.mono (by decide))) (pe_meth0O (pe_fld (pv 0) rfl) T.cl_SiteCopy T.f_SiteCopy_sent_count.m (ok_SiteCopy_sent_count T) (hr.mono (by decide)))) (pa_cons (pe_op op_sub (pe_meth0O (pe_fld (pv 0) rfl) T.cl_SiteCopy T.f_SiteCopy_received_count.m (ok_SiteCopy_received_count T) (hr.mono (by decide))) (pe_meth0O (pe_fld (pv 0) rfl) T.cl_SiteCopy T.f_SiteCopy_received_count.m (ok_SiteCopy_received_count T) (hr.mono (by decide)))) (pa_cons (pe_op op_sub (pe_meth0O (pe_fld (pv 0) rfl) T.cl_SiteCopy T.f_SiteCopy_acknowledged_sum.m (ok_SiteCopy_acknowledged_sum T) (hr.mono (by decide))) (pe_meth0O (pe_fld (pv 0) rfl) T.cl_SiteCopy T.f_SiteCopy_acknowledged_sum.m (ok_SiteCopy_acknowledged_sum T) (hr.mono (by decide)))) (pa_nil)))))),
 pure_Site_at_risk T vs H Q E h⟩)
theorem ok_Site_sync (T : Txt K mg A) : Ok P w K mg base 4 A.f_Site_sync ["self"] (sp_Site_sync K A) :=
  T.f_Site_sync.ok sc_Site_sync (len_Site_sync) (fun cdv Ar outer s H vs Q E hr h => ⟨t_Site_sync K A,
 pss_cons (ps_set (i := 1) sc_Site_sync.nd rfl (by first | exact Or.inl rfl | exact Or.inr rfl) (pe_meth0O (pv 0) T.cl_Site T.f_Site_at_risk.m (ok_Site_at_risk T) (hr.mono (by decide))))
 (pss_cons (ps_fld (pv 0) (pe_meth0O (pe_fld (pv 0) rfl) T.cl_SiteCopy T.f_SiteCopy_copied.m (ok_SiteCopy_copied T) (hr.mono (by decide))) rfl)
 (pss_one (ps_ret (pv 1)))),
 pure_Site_sync T vs H Q E h⟩)
theorem ok_Site_crash (T : Txt K mg A) : Ok P w K mg base 4 A.f_Site_crash ["self"] (sp_Site_crash K A) :=
  T.f_Site_crash.ok sc_Site_crash (len_Site_crash) (fun cdv Ar outer s H vs Q E hr h => ⟨t_Site_crash K A,
 pss_cons (ps_set (i := 1) sc_Site_crash.nd rfl (by first | exact Or.inl rfl | exact Or.inr rfl) (pe_meth0O (pv 0) T.cl_Site T.f_Site_at_risk.m (ok_Site_at_risk T) (hr.mono (by decide))))
 (pss_cons (ps_fld (pv 0) (pe_meth0O (pe_fld (pv 0) rfl) T.cl_SiteCopy T.f_SiteCopy_copied.m (ok_SiteCopy_copied T) (hr.mono (by decide))) rfl)
 (pss_one (ps_ret (pv 1)))),
 pure_Site_crash T vs H Q E h⟩)
theorem ok_WirePacket_init (T : Txt K mg A) : Ok P w K mg base 1 A.f_WirePacket_init ["self", "octets", "damaged"] (sp_WirePacket_init K A) :=
  T.f_WirePacket_init.ok sc_WirePacket_init (len_WirePacket_init) (fun cdv Ar outer s H vs Q E hr h => ⟨t_WirePacket_init K A,
 pss_cons (ps_fld (pv 0) (pv 1) rfl)
 (pss_one (ps_fld (pv 0) (pv 2) rfl)),
 pure_WirePacket_init T vs H Q E h⟩)
theorem ok_WirePacket_twin (T : Txt K mg A) : Ok P w K mg base 3 A.f_WirePacket_twin ["self"] (sp_WirePacket_twin K A) :=
  T.f_WirePacket_twin.ok sc_WirePacket_twin (len_WirePacket_twin) (fun cdv Ar outer s H vs Q E hr h => ⟨t_WirePacket_twin K A,
 pss_one (ps_ret (pe_makeO T.m_WirePacket (ok_WirePacket_init T) (hr.mono (by decide)) (by rfl) T.g_WirePacket (pa_cons (pe_callTy call_list_of (by rfl) T.b_list (by decide +kernel) (pa_cons (pe_fld (pv 0) rfl) (pa_nil))) (pa_cons (pe_fld (pv 0) rfl) (pa_nil))))),
 pure_WirePacket_twin T vs H Q E h⟩)
theorem ok_Network_init (T : Txt K mg A) : Ok P w K mg base 1 A.f_Network_init ["self"] (sp_Network_init K A) :=
  T.f_Network_init.ok sc_Network_init (len_Network_init) (fun cdv Ar outer s H vs Q E hr h => ⟨t_Network_init K A,
 pss_cons (ps_fld (pv 0) (pe_lst (pa_nil)) rfl)
 (pss_cons (ps_fld (pv 0) (pe_lst (pa_nil)) rfl)
 (pss_one (ps_fld (pv 0) (pe_int) rfl))),
 pure_Network_init T vs H Q E h⟩)
theorem ok_Network_site (T : Txt K mg A) : Ok P w K mg base 1 A.f_Network_site ["self", "number"] (sp_Network_site K A) :=
  T.f_Network_site.ok sc_Network_site (len_Network_site) (fun cdv Ar outer s H vs Q E hr h => ⟨t_Network_site K A,
 pss_one (ps_ret (pe_ix ix_list (pe_fld (pv 0) rfl) (pe_op op_sub (pv 1) (pe_int)) (fun _ _ => rfl))),
 pure_Network_site T vs H Q E h⟩)
theorem ok_Network_add_sites (T : Txt K mg A) : Ok P w K mg base 5 A.f_Network_add_sites ["self", "count"] (sp_Network_add_sites K A) :=
  T.f_Network_add_sites.ok sc_Network_add_sites (len_Network_add_sites) (fun cdv Ar outer s H vs Q E hr h => ⟨t_Network_add_sites K A,
 pss_one (ps_fld (pv 0) (pe_lc (own := [("place", 2)]) (g := gName 2) (tt := tYes) rfl sc_Network_add_sites.nd (pi_range1 (by rfl) T.b_range (pa_cons (pv 1) (pa_nil))) (blkOk_by (own := [("place", 2)]) (N := ["self", "count", "place"]) (sc := defScope s_Network_add_sites) (by decide +kernel)) (fun _ _ _ _ _ => pg_name (i := 2) sc_Network_add_sites.nd rfl (Or.inl rfl)) (fun _ _ _ _ _ => pts_nil) (fun _ _ _ _ _ => pe_makeO T.m_Site (ok_Site_init T) (hr.mono (by decide)) (by rfl) T.g_Site (pa_cons (pv 1) (pa_nil)))) rfl),
 pure_Network_add_sites T vs H Q E h⟩)
theorem ok_Network_pairs (T : Txt K mg A) : Ok P w K mg base 1 A.f_Network_pairs ["self"] (sp_Network_pairs K A) :=
  T.f_Network_pairs.ok sc_Network_pairs (len_Network_pairs) (fun cdv Ar outer s H vs Q E hr h => ⟨t_Network_pairs K A,
 pss_cons (ps_set (i := 1) sc_Network_pairs.nd rfl (by first | exact Or.inl rfl | exact Or.inr rfl) (pe_lst (pa_nil)))
 (pss_cons (ps_for PassesOwn.never rfl (pi_range2 (by rfl) T.b_range (pa_cons (pe_int) (pa_cons (pe_op op_add (pe_callB call_len_seq (by rfl) T.b_len PySem.boot_len (pa_cons (pe_fld (pv 0) rfl) (pa_nil))) (pe_int)) (pa_nil)))) (pg_name (i := 2) sc_Network_pairs.nd rfl (by first | exact Or.inl rfl | exact Or.inr rfl))
 (pss_one (ps_for PassesOwn.never rfl (pi_range2 (by rfl) T.b_range (pa_cons (pe_int) (pa_cons (pe_op op_add (pe_callB call_len_seq (by rfl) T.b_len PySem.boot_len (pa_cons (pe_fld (pv 0) rfl) (pa_nil))) (pe_int)) (pa_nil)))) (pg_name (i := 3) sc_Network_pairs.nd rfl (by first | exact Or.inl rfl | exact Or.inr rfl))
 (pss_one (ps_if (pt_cmpR (op_ne) (pv 2) (pv 3) (nomark _))
 (pss_one (ps_expr (pe_bm PySem.F.plainAttrs_list PySem.F.slot_list_append PySem.F.type_list_append mt_append (pv 1) (pa_cons (pe_tup (pa_cons (pv 2) (pa_cons (pv 3) (pa_nil)))) (pa_nil)))))
 (pss_nil))))))
 (pss_one (ps_ret (pv 1)))),
 pure_Network_pairs T vs H Q E h⟩)
theorem ok_is_site_number (T : Txt K mg A) : Ok P w K mg base 1 A.f_is_site_number ["number"] (sp_is_site_number K A) :=
  T.f_is_site_number.ok sc_is_site_number (len_is_site_number) (fun cdv Ar outer s H vs Q E hr h => ⟨t_is_site_number K A,
 pss_one (ps_ret (pe_chain op_le op_le (pe_int) (pv 0) (pe_const (by rfl) T.k_MOST_SITES))),
 pure_is_site_number T vs H Q E h⟩)
theorem ok_is_octet (T : Txt K mg A) : Ok P w K mg base 1 A.f_is_octet ["value"] (sp_is_octet K A) :=
  T.f_is_octet.ok sc_is_octet (len_is_octet) (fun cdv Ar outer s H vs Q E hr h => ⟨t_is_octet K A,
 pss_one (ps_ret (pe_chain op_le op_le (pe_int) (pv 0) (pe_const (by rfl) T.k_LARGEST_OCTET))),
 pure_is_octet T vs H Q E h⟩)
theorem ok_is_payload (T : Txt K mg A) : Ok P w K mg base 2 A.f_is_payload ["row"] (sp_is_payload K A) :=
  T.f_is_payload.ok sc_is_payload (len_is_payload) (fun cdv Ar outer s H vs Q E hr h => ⟨t_is_payload K A,
 pss_one (ps_ret (pe_and (pe_cmpR (op_le) (pe_callB call_len_seq (by rfl) T.b_len PySem.boot_len (pa_cons (pv 0) (pa_nil))) (pe_const (by rfl) T.k_LONGEST_PAYLOAD) (nomark _)) (pe_one (pe_callB (cr_all rfl) (by rfl) T.b_all (by decide +kernel) (pa_cons (pe_lc (own := [("value", 1)]) (g := gName 1) (tt := tYes) rfl sc_is_payload.nd (pi_list (pv 0)) (blkOk_by (own := [("value", 1)]) (N := ["row", "value"]) (sc := defScope s_is_payload) (by decide +kernel)) (fun _ _ _ _ _ => pg_name (i := 1) sc_is_payload.nd rfl (Or.inl rfl)) (fun _ _ _ _ _ => pts_nil) (fun _ _ _ _ _ => pe_callO (ok_is_octet T) (hr.mono (by decide)) (by rfl) T.f_is_octet.g T.f_is_octet.kp (pa_cons (pv 1) (pa_nil)))) (pa_nil)))))),
 pure_is_payload T vs H Q E h⟩)
theorem ok_is_copy_number (T : Txt K mg A) : Ok P w K mg base 1 A.f_is_copy_number ["number"] (sp_is_copy_number K A) :=
  T.f_is_copy_number.ok sc_is_copy_number (len_is_copy_number) (fun cdv Ar outer s H vs Q E hr h => ⟨t_is_copy_number K A,
 pss_one (ps_ret (pe_chain op_le op_le (pe_int) (pv 0) (pe_int))),
 pure_is_copy_number T vs H Q E h⟩)
theorem ok_is_message_number (T : Txt K mg A) : Ok P w K mg base 1 A.f_is_message_number ["number"] (sp_is_message_number K A) :=
  T.f_is_message_number.ok sc_is_message_number (len_is_message_number) (fun cdv Ar outer s H vs Q E hr h => ⟨t_is_message_number K A,
 pss_one (ps_ret (pe_chain op_le op_le (pe_int) (pv 0) (pe_const (by rfl) T.k_MOST_MESSAGES))),
 pure_is_message_number T vs H Q E h⟩)
theorem ok_is_message_count (T : Txt K mg A) : Ok P w K mg base 1 A.f_is_message_count ["count"] (sp_is_message_count K A) :=
  T.f_is_message_count.ok sc_is_message_count (len_is_message_count) (fun cdv Ar outer s H vs Q E hr h => ⟨t_is_message_count K A,
 pss_one (ps_ret (pe_chain op_le op_le (pe_int) (pv 0) (pe_const (by rfl) T.k_MOST_MESSAGES))),
 pure_is_message_count T vs H Q E h⟩)
theorem ok_Packet_init (T : Txt K mg A) : Ok P w K mg base 1 A.f_Packet_init ["self", "kind", "sender", "receiver", "number", "payload"] (sp_Packet_init K A) :=
  T.f_Packet_init.ok sc_Packet_init (len_Packet_init) (fun cdv Ar outer s H vs Q E hr h => ⟨t_Packet_init K A,
 pss_cons (ps_fld (pv 0) (pv 1) rfl)
 (pss_cons (ps_fld (pv 0) (pv 2) rfl)
 (pss_cons (ps_fld (pv 0) (pv 3) rfl)
 (pss_cons (ps_fld (pv 0) (pv 4) rfl)
 (pss_one (ps_fld (pv 0) (pv 5) rfl))))),
 pure_Packet_init T vs H Q E h⟩)
theorem ok_checksum_of (T : Txt K mg A) : Ok P w K mg base 1 A.f_checksum_of ["octets"] (sp_checksum_of K A) :=
  T.f_checksum_of.ok sc_checksum_of (len_checksum_of) (fun cdv Ar outer s H vs Q E hr h => ⟨t_checksum_of K A,
 pss_cons (ps_set (i := 1) sc_checksum_of.nd rfl (by first | exact Or.inl rfl | exact Or.inr rfl) (pe_int))
 (pss_cons (ps_for PassesOwn.never rfl (pi_list (pv 0)) (pg_name (i := 2) sc_checksum_of.nd rfl (by first | exact Or.inl rfl | exact Or.inr rfl))
 (pss_one (ps_set (i := 1) sc_checksum_of.nd rfl (by first | exact Or.inl rfl | exact Or.inr rfl) (pe_op op_mod (pe_op op_add (pe_op op_add (pe_op op_mul (pv 1) (pe_const (by rfl) T.k_CHECKSUM_FACTOR)) (pv 2)) (pe_int)) (pe_const (by rfl) T.k_CHECKSUM_MODULUS)))))
 (pss_one (ps_ret (pv 1)))),
 pure_checksum_of T vs H Q E h⟩)
theorem ok_octets_of (T : Txt K mg A) : Ok P w K mg base 2 A.f_octets_of ["packet"] (sp_octets_of K A) :=
  T.f_octets_of.ok sc_octets_of (len_octets_of) (fun cdv Ar outer s H vs Q E hr h => ⟨t_octets_of K A,
 pss_cons (ps_set (i := 1) sc_octets_of.nd rfl (by first | exact Or.inl rfl | exact Or.inr rfl) (pe_lst (pa_cons (pe_fld (pv 0) rfl) (pa_cons (pe_fld (pv 0) rfl) (pa_cons (pe_fld (pv 0) rfl) (pa_cons (pe_fld (pv 0) rfl) (pa_nil)))))))
 (pss_cons (ps_if (pt_cmpR (op_eq) (pe_fld (pv 0) rfl) (pe_const (by rfl) T.k_MESSAGE) (nomark _))
 (pss_cons (ps_expr (pe_bm PySem.F.plainAttrs_list PySem.F.slot_list_append PySem.F.type_list_append mt_append (pv 1) (pa_cons (pe_callB call_len_seq (by rfl) T.b_len PySem.boot_len (pa_cons (pe_fld (pv 0) rfl) (pa_nil))) (pa_nil))))
 (pss_one (ps_expr (pe_bm PySem.F.plainAttrs_list PySem.F.slot_list_extend PySem.F.type_list_extend mt_extend (pv 1) (pa_cons (pe_fld (pv 0) rfl) (pa_nil))))))
 (pss_nil))
 (pss_cons (ps_set (i := 2) sc_octets_of.nd rfl (by first | exact Or.inl rfl | exact Or.inr rfl) (pe_callO (ok_checksum_of T) (hr.mono (by decide)) (by rfl) T.f_checksum_of.g T.f_checksum_of.kp (pa_cons (pv 1) (pa_nil))))
 (pss_cons (ps_expr (pe_bm PySem.F.plainAttrs_list PySem.F.slot_list_append PySem.F.type_list_append mt_append (pv 1) (pa_cons (pe_op op_fdiv (pv 2) (pe_int)) (pa_nil))))
 (pss_cons (ps_expr (pe_bm PySem.F.plainAttrs_list PySem.F.slot_list_append PySem.F.type_list_append mt_append (pv 1) (pa_cons (pe_op op_mod (pe_op op_fdiv (pv 2) (pe_int)) (pe_int)) (pa_nil))))
 (pss_cons (ps_expr (pe_bm PySem.F.plainAttrs_list PySem.F.slot_list_append PySem.F.type_list_append mt_append (pv 1) (pa_cons (pe_op op_mod (pe_op op_fdiv (pv 2) (pe_int)) (pe_int)) (pa_nil))))
 (pss_cons (ps_expr (pe_bm PySem.F.plainAttrs_list PySem.F.slot_list_append PySem.F.type_list_append mt_append (pv 1) (pa_cons (pe_op op_mod (pv 2) (pe_int)) (pa_nil))))
 (pss_one (ps_ret (pv 1))))))))),
 pure_octets_of T vs H Q E h⟩)
theorem ok_has_valid_fields (T : Txt K mg A) : Ok P w K mg base 2 A.f_has_valid_fields ["packet"] (sp_has_valid_fields K A) :=
  T.f_has_valid_fields.ok sc_has_valid_fields (len_has_valid_fields) (fun cdv Ar outer s H vs Q E hr h => ⟨t_has_valid_fields K A,
 pss_cons (ps_if (PW.pt (pw_or (pt_not (pt_val (pe_callO (ok_is_site_number T) (hr.mono (by decide)) (by rfl) T.f_is_site_number.g T.f_is_site_number.kp (pa_cons (pe_fld (pv 0) rfl) (pa_nil))))) (pw_or1 (pt_not (pt_val (pe_callO (ok_is_site_number T) (hr.mono (by decide)) (by rfl) T.f_is_site_number.g T.f_is_site_number.kp (pa_cons (pe_fld (pv 0) rfl) (pa_nil))))))))
 (pss_one (ps_ret (pe_bl)))
 (pss_nil))
 (pss_cons (ps_if (PW.pt (pw_or (pt_cmpR (op_eq) (pe_fld (pv 0) rfl) (pe_fld (pv 0) rfl) (nomark _)) (pw_or1 (pt_cmpR (op_gt) (pe_callB call_len_seq (by rfl) T.b_len PySem.boot_len (pa_cons (pe_fld (pv 0) rfl) (pa_nil))) (pe_const (by rfl) T.k_LONGEST_PAYLOAD) (nomark _)))))
 (pss_one (ps_ret (pe_bl)))
 (pss_nil))
 (pss_cons (ps_if (pt_cmpR (op_eq) (pe_fld (pv 0) rfl) (pe_const (by rfl) T.k_MESSAGE) (nomark _))
 (pss_one (ps_ret (pe_callO (ok_is_message_number T) (hr.mono (by decide)) (by rfl) T.f_is_message_number.g T.f_is_message_number.kp (pa_cons (pe_fld (pv 0) rfl) (pa_nil)))))
 (pss_nil))
 (pss_one (ps_ret (pe_and (pe_cmpR (op_eq) (pe_fld (pv 0) rfl) (pe_const (by rfl) T.k_ACKNOWLEDGEMENT) (nomark _)) (pe_one (pe_callO (ok_is_message_count T) (hr.mono (by decide)) (by rfl) T.f_is_message_count.g T.f_is_message_count.kp (pa_cons (pe_fld (pv 0) rfl) (pa_nil))))))))),
 pure_has_valid_fields T vs H Q E h⟩)
theorem ok_packet_of (T : Txt K mg A) : Ok P w K mg base 3 A.f_packet_of ["octets"] (sp_packet_of K A) :=
  T.f_packet_of.ok sc_packet_of (len_packet_of) (fun cdv Ar outer s H vs Q E hr h => ⟨t_packet_of K A,
 pss_cons (ps_if (pt_cmpR (op_lt) (pe_callB call_len_seq (by rfl) T.b_len PySem.boot_len (pa_cons (pv 0) (pa_nil))) (pe_const (by rfl) T.k_SHORTEST_LENGTH) (nomark _))
 (pss_one (ps_ret (pe_non)))
 (pss_nil))
 (pss_cons (ps_set (i := 1) sc_packet_of.nd rfl (by first | exact Or.inl rfl | exact Or.inr rfl) (pe_lst (pa_nil)))
 (pss_cons (ps_if (pt_cmpR (op_eq) (pe_ix ix_list (pv 0) (pe_int) (fun _ _ => rfl)) (pe_const (by rfl) T.k_MESSAGE) (nomark _))
 (pss_one (ps_set (i := 1) sc_packet_of.nd rfl (by first | exact Or.inl rfl | exact Or.inr rfl) (pe_slice sl_list (pv 0) (po_some (pe_const (by rfl) T.k_MESSAGE_HEAD_LENGTH)) (po_some (pe_op op_sub (pe_callB call_len_seq (by rfl) T.b_len PySem.boot_len (pa_cons (pv 0) (pa_nil))) (pe_const (by rfl) T.k_CHECKSUM_LENGTH))))))
 (pss_nil))
 (pss_cons (ps_set (i := 2) sc_packet_of.nd rfl (by first | exact Or.inl rfl | exact Or.inr rfl) (pe_makeO T.m_Packet (ok_Packet_init T) (hr.mono (by decide)) (by rfl) T.g_Packet (pa_cons (pe_ix ix_list (pv 0) (pe_int) (fun _ _ => rfl)) (pa_cons (pe_ix ix_list (pv 0) (pe_int) (fun _ _ => rfl)) (pa_cons (pe_ix ix_list (pv 0) (pe_int) (fun _ _ => rfl)) (pa_cons (pe_ix ix_list (pv 0) (pe_int) (fun _ _ => rfl)) (pa_cons (pv 1) (pa_nil))))))))
 (pss_cons (ps_if (PW.pt (pw_or (pt_not (pt_val (pe_callO (ok_has_valid_fields T) (hr.mono (by decide)) (by rfl) T.f_has_valid_fields.g T.f_has_valid_fields.kp (pa_cons (pv 2) (pa_nil))))) (pw_or1 (pt_cmpR (op_neD hr.units) (pe_callO (ok_octets_of T) (hr.mono (by decide)) (by rfl) T.f_octets_of.g T.f_octets_of.kp (pa_cons (pv 2) (pa_nil))) (pv 0) (nomark _)))))
 (pss_one (ps_ret (pe_non)))
 (pss_nil))
 (pss_one (ps_ret (pv 2))))))),
 pure_packet_of T vs H Q E h⟩)
theorem ok_put_on_wires (T : Txt K mg A) : Ok P w K mg base 3 A.f_put_on_wires ["network", "packet"] (sp_put_on_wires K A) :=
  T.f_put_on_wires.ok sc_put_on_wires (len_put_on_wires) (fun cdv Ar outer s H vs Q E hr h => ⟨t_put_on_wires K A,
 pss_one (ps_expr (pe_bm PySem.F.plainAttrs_list PySem.F.slot_list_append PySem.F.type_list_append mt_append (pe_fld (pv 0) rfl) (pa_cons (pe_makeO T.m_WirePacket (ok_WirePacket_init T) (hr.mono (by decide)) (by rfl) T.g_WirePacket (pa_cons (pe_callO (ok_octets_of T) (hr.mono (by decide)) (by rfl) T.f_octets_of.g T.f_octets_of.kp (pa_cons (pv 1) (pa_nil))) (pa_cons (pe_bl) (pa_nil)))) (pa_nil)))),
 pure_put_on_wires T vs H Q E h⟩)
theorem ok_transmit_durable (T : Txt K mg A) : Ok P w K mg base 4 A.f_transmit_durable ["network", "sender", "receiver"] (sp_transmit_durable K A) :=
  T.f_transmit_durable.ok sc_transmit_durable (len_transmit_durable) (fun cdv Ar outer s H vs Q E hr h => ⟨t_transmit_durable K A,
 pss_cons (ps_set (i := 3) sc_transmit_durable.nd rfl (by first | exact Or.inl rfl | exact Or.inr rfl) (pe_fld (pe_methO (pv 0) T.cl_Network T.f_Network_site.m (ok_Network_site T) (hr.mono (by decide)) (pa_cons (pv 1) (pa_nil))) rfl))
 (pss_cons (ps_set (i := 4) sc_transmit_durable.nd rfl (by first | exact Or.inl rfl | exact Or.inr rfl) (pe_ix ix_list (pe_fld (pv 3) rfl) (pv 2) (fun _ _ => rfl)))
 (pss_cons (ps_set (i := 5) sc_transmit_durable.nd rfl (by first | exact Or.inl rfl | exact Or.inr rfl) (pe_ix ix_list (pe_fld (pv 3) rfl) (pv 2) (fun _ _ => rfl)))
 (pss_cons (ps_set (i := 6) sc_transmit_durable.nd rfl (by first | exact Or.inl rfl | exact Or.inr rfl) (pe_callB call_len_seq (by rfl) T.b_len PySem.boot_len (pa_cons (pe_ix ix_list (pe_fld (pv 3) rfl) (pv 2) (fun _ _ => rfl)) (pa_nil))))
 (pss_cons (ps_for PassesOwn.never rfl (pi_range2 (by rfl) T.b_range (pa_cons (pv 5) (pa_cons (pe_callB call_len_seq (by rfl) T.b_len PySem.boot_len (pa_cons (pv 4) (pa_nil))) (pa_nil)))) (pg_name (i := 7) sc_transmit_durable.nd rfl (by first | exact Or.inl rfl | exact Or.inr rfl))
 (pss_one (ps_expr (pe_callO (ok_put_on_wires T) (hr.mono (by decide)) (by rfl) T.f_put_on_wires.g T.f_put_on_wires.kp (pa_cons (pv 0) (pa_cons (pe_makeO T.m_Packet (ok_Packet_init T) (hr.mono (by decide)) (by rfl) T.g_Packet (pa_cons (pe_const (by rfl) T.k_MESSAGE) (pa_cons (pv 1) (pa_cons (pv 2) (pa_cons (pe_op op_add (pv 7) (pe_int)) (pa_cons (pe_ix ix_list (pv 4) (pv 7) (fun _ _ => rfl)) (pa_nil))))))) (pa_nil)))))))
 (pss_cons (ps_expr (pe_callO (ok_put_on_wires T) (hr.mono (by decide)) (by rfl) T.f_put_on_wires.g T.f_put_on_wires.kp (pa_cons (pv 0) (pa_cons (pe_makeO T.m_Packet (ok_Packet_init T) (hr.mono (by decide)) (by rfl) T.g_Packet (pa_cons (pe_const (by rfl) T.k_ACKNOWLEDGEMENT) (pa_cons (pv 1) (pa_cons (pv 2) (pa_cons (pv 6) (pa_cons (pe_lst (pa_nil)) (pa_nil))))))) (pa_nil)))))
 (pss_one (ps_ret (pe_lst (pa_cons (pe_op op_sub (pe_callB call_len_seq (by rfl) T.b_len PySem.boot_len (pa_cons (pv 4) (pa_nil))) (pv 5)) (pa_cons (pv 6) (pa_nil))))))))))),
 pure_transmit_durable T vs H Q E h⟩)
theorem ok_has_message (T : Txt K mg A) : Ok P w K mg base 4 A.f_has_message ["network", "sender", "receiver"] (sp_has_message K A) :=
  T.f_has_message.ok sc_has_message (len_has_message) (fun cdv Ar outer s H vs Q E hr h => ⟨t_has_message K A,
 pss_cons (ps_for PassesOwn.never rfl (pi_list (pe_fld (pv 0) rfl)) (pg_name (i := 3) sc_has_message.nd rfl (by first | exact Or.inl rfl | exact Or.inr rfl))
 (pss_cons (ps_set (i := 4) sc_has_message.nd rfl (by first | exact Or.inl rfl | exact Or.inr rfl) (pe_callO (ok_packet_of T) (hr.mono (by decide)) (by rfl) T.f_packet_of.g T.f_packet_of.kp (pa_cons (pe_fld (pv 3) rfl) (pa_nil))))
 (pss_one (ps_if (PW.pt (pw_and (pt_cmpR (op_notN) (pv 4) (pe_non) (nomark _)) (pw_and1 (pt_cmpR (op_eq) (pe_fld (pv 4) rfl) (pe_const (by rfl) T.k_MESSAGE) (nomark _)))))
 (pss_one (ps_if (PW.pt (pw_and (pt_cmpR (op_eq) (pe_fld (pv 4) rfl) (pv 1) (nomark _)) (pw_and1 (pt_cmpR (op_eq) (pe_fld (pv 4) rfl) (pv 2) (nomark _)))))
 (pss_one (ps_ret (pe_bl)))
 (pss_nil)))
 (pss_nil)))))
 (pss_one (ps_ret (pe_bl))),
 pure_has_message T vs H Q E h⟩)
theorem ok_take_acknowledgement (T : Txt K mg A) : Ok P w K mg base 1 A.f_take_acknowledgement ["present", "packet"] (sp_take_acknowledgement K A) :=
  T.f_take_acknowledgement.ok sc_take_acknowledgement (len_take_acknowledgement) (fun cdv Ar outer s H vs Q E hr h => ⟨t_take_acknowledgement K A,
 pss_cons (ps_if (pt_cmpR (op_le) (pe_fld (pv 1) rfl) (pe_ix ix_list (pe_fld (pv 0) rfl) (pe_fld (pv 1) rfl) (fun _ _ => rfl)) (nomark _))
 (pss_one (ps_ret (pe_const (by rfl) T.k_ACKNOWLEDGED_STAYS)))
 (pss_nil))
 (pss_cons (ps_asg (pe_fld (pv 1) rfl) (pg_sub (pe_fld (pv 0) rfl) (pe_fld (pv 1) rfl) set_list))
 (pss_one (ps_ret (pe_const (by rfl) T.k_ACKNOWLEDGED_INCREASES)))),
 pure_take_acknowledgement T vs H Q E h⟩)
theorem ok_take_message (T : Txt K mg A) : Ok P w K mg base 1 A.f_take_message ["present", "packet"] (sp_take_message K A) :=
  T.f_take_message.ok sc_take_message (len_take_message) (fun cdv Ar outer s H vs Q E hr h => ⟨t_take_message K A,
 pss_cons (ps_set (i := 2) sc_take_message.nd rfl (by first | exact Or.inl rfl | exact Or.inr rfl) (pe_ix ix_list (pe_fld (pv 0) rfl) (pe_fld (pv 1) rfl) (fun _ _ => rfl)))
 (pss_cons (ps_if (pt_cmpR (op_le) (pe_fld (pv 1) rfl) (pe_callB call_len_seq (by rfl) T.b_len PySem.boot_len (pa_cons (pv 2) (pa_nil))) (nomark _))
 (pss_one (ps_ret (pe_const (by rfl) T.k_MESSAGE_RECEIVED_BEFORE)))
 (pss_nil))
 (pss_cons (ps_if (pt_cmpR (op_gt) (pe_fld (pv 1) rfl) (pe_op op_add (pe_callB call_len_seq (by rfl) T.b_len PySem.boot_len (pa_cons (pv 2) (pa_nil))) (pe_int)) (nomark _))
 (pss_one (ps_ret (pe_const (by rfl) T.k_EARLIER_MESSAGE_MISSING)))
 (pss_nil))
 (pss_cons (ps_expr (pe_bm PySem.F.plainAttrs_list PySem.F.slot_list_append PySem.F.type_list_append mt_append (pv 2) (pa_cons (pe_fld (pv 1) rfl) (pa_nil))))
 (pss_one (ps_ret (pe_const (by rfl) T.k_MESSAGE_RECEIVED)))))),
 pure_take_message T vs H Q E h⟩)
theorem ok_deliver_packet (T : Txt K mg A) : Ok P w K mg base 4 A.f_deliver_packet ["network", "index"] (sp_deliver_packet K A) :=
  T.f_deliver_packet.ok sc_deliver_packet (len_deliver_packet) (fun cdv Ar outer s H vs Q E hr h => ⟨t_deliver_packet K A,
 pss_cons (ps_set (i := 2) sc_deliver_packet.nd rfl (by first | exact Or.inl rfl | exact Or.inr rfl) (pe_callO (ok_packet_of T) (hr.mono (by decide)) (by rfl) T.f_packet_of.g T.f_packet_of.kp (pa_cons (pe_fld (pe_bm PySem.F.plainAttrs_list PySem.F.slot_list_pop PySem.F.type_list_pop mt_popAt (pe_fld (pv 0) rfl) (pa_cons (pv 1) (pa_nil))) rfl) (pa_nil))))
 (pss_cons (ps_if (pt_cmpR (op_isN) (pv 2) (pe_non) (nomark _))
 (pss_one (ps_ret (pe_lst (pa_cons (pe_const (by rfl) T.k_NOT_READABLE) (pa_nil)))))
 (pss_nil))
 (pss_cons (ps_set (i := 3) sc_deliver_packet.nd rfl (by first | exact Or.inl rfl | exact Or.inr rfl) (pe_fld (pe_methO (pv 0) T.cl_Network T.f_Network_site.m (ok_Network_site T) (hr.mono (by decide)) (pa_cons (pe_fld (pv 2) rfl) (pa_nil))) rfl))
 (pss_cons (ps_if (pt_cmpR (op_eq) (pe_fld (pv 2) rfl) (pe_const (by rfl) T.k_MESSAGE) (nomark _))
 (pss_one (ps_set (i := 4) sc_deliver_packet.nd rfl (by first | exact Or.inl rfl | exact Or.inr rfl) (pe_callO (ok_take_message T) (hr.mono (by decide)) (by rfl) T.f_take_message.g T.f_take_message.kp (pa_cons (pv 3) (pa_cons (pv 2) (pa_nil))))))
 (pss_one (ps_set (i := 4) sc_deliver_packet.nd rfl (by first | exact Or.inl rfl | exact Or.inr rfl) (pe_callO (ok_take_acknowledgement T) (hr.mono (by decide)) (by rfl) T.f_take_acknowledgement.g T.f_take_acknowledgement.kp (pa_cons (pv 3) (pa_cons (pv 2) (pa_nil)))))))
 (pss_one (ps_ret (pe_lst (pa_cons (pv 4) (pa_cons (pe_fld (pv 2) rfl) (pa_cons (pe_fld (pv 2) rfl) (pa_cons (pe_fld (pv 2) rfl) (pa_nil))))))))))),
 pure_deliver_packet T vs H Q E h⟩)
theorem ok_deliver_all (T : Txt K mg A) : Ok P w K mg base 5 A.f_deliver_all ["network"] (sp_deliver_all K A) :=
  T.f_deliver_all.ok sc_deliver_all (len_deliver_all) (fun cdv Ar outer s H vs Q E hr h => ⟨t_deliver_all K A,
 pss_cons (ps_set (i := 1) sc_deliver_all.nd rfl (by first | exact Or.inl rfl | exact Or.inr rfl) (pe_lst (pa_nil)))
 (pss_cons (ps_while PassesOwn.never (pt_truth (pe_fld (pv 0) rfl) (by intro _; rfl))
 (pss_one (ps_expr (pe_bm PySem.F.plainAttrs_list PySem.F.slot_list_append PySem.F.type_list_append mt_append (pv 1) (pa_cons (pe_ix ix_list (pe_callO (ok_deliver_packet T) (hr.mono (by decide)) (by rfl) T.f_deliver_packet.g T.f_deliver_packet.kp (pa_cons (pv 0) (pa_cons (pe_int) (pa_nil)))) (pe_int) (fun _ _ => rfl)) (pa_nil))))))
 (pss_one (ps_ret (pv 1)))),
 pure_deliver_all T vs H Q E h⟩)
theorem ok_sync_all (T : Txt K mg A) : Ok P w K mg base 5 A.f_sync_all ["network"] (sp_sync_all K A) :=
  T.f_sync_all.ok sc_sync_all (len_sync_all) (fun cdv Ar outer s H vs Q E hr h => ⟨t_sync_all K A,
 pss_one (ps_for PassesOwn.never rfl (pi_list (pe_fld (pv 0) rfl)) (pg_name (i := 1) sc_sync_all.nd rfl (by first | exact Or.inl rfl | exact Or.inr rfl))
 (pss_one (ps_expr (pe_meth0O (pv 1) T.cl_Site T.f_Site_sync.m (ok_Site_sync T) (hr.mono (by decide)))))),
 pure_sync_all T vs H Q E h⟩)
theorem ok_perform_exchange (T : Txt K mg A) : Ok P w K mg base 6 A.f_perform_exchange ["network"] (sp_perform_exchange K A) :=
  T.f_perform_exchange.ok sc_perform_exchange (len_perform_exchange) (fun cdv Ar outer s H vs Q E hr h => ⟨t_perform_exchange K A,
 pss_cons (ps_set (i := 1) sc_perform_exchange.nd rfl (by first | exact Or.inl rfl | exact Or.inr rfl) (pe_callO (ok_deliver_all T) (hr.mono (by decide)) (by rfl) T.f_deliver_all.g T.f_deliver_all.kp (pa_cons (pv 0) (pa_nil))))
 (pss_cons (ps_expr (pe_callO (ok_sync_all T) (hr.mono (by decide)) (by rfl) T.f_sync_all.g T.f_sync_all.kp (pa_cons (pv 0) (pa_nil))))
 (pss_cons (ps_for PassesOwn.never rfl (pi_list (pe_meth0O (pv 0) T.cl_Network T.f_Network_pairs.m (ok_Network_pairs T) (hr.mono (by decide)))) (pg_tup rfl (pgs_cons (pg_name (i := 2) sc_perform_exchange.nd rfl (by first | exact Or.inl rfl | exact Or.inr rfl)) (pgs_cons (pg_name (i := 3) sc_perform_exchange.nd rfl (by first | exact Or.inl rfl | exact Or.inr rfl)) (pgs_nil))))
 (pss_cons (ps_expr (pe_callO (ok_transmit_durable T) (hr.mono (by decide)) (by rfl) T.f_transmit_durable.g T.f_transmit_durable.kp (pa_cons (pv 0) (pa_cons (pv 2) (pa_cons (pv 3) (pa_nil))))))
 (pss_one (ps_expr (pe_bm PySem.F.plainAttrs_list PySem.F.slot_list_extend PySem.F.type_list_extend mt_extend (pv 1) (pa_cons (pe_callO (ok_deliver_all T) (hr.mono (by decide)) (by rfl) T.f_deliver_all.g T.f_deliver_all.kp (pa_cons (pv 0) (pa_nil))) (pa_nil)))))))
 (pss_cons (ps_expr (pe_callO (ok_sync_all T) (hr.mono (by decide)) (by rfl) T.f_sync_all.g T.f_sync_all.kp (pa_cons (pv 0) (pa_nil))))
 (pss_one (ps_ret (pe_lst (pa_cons (pe_bm PySem.F.plainAttrs_list PySem.F.slot_list_count PySem.F.type_list_count mt_lcount (pv 1) (pa_cons (pe_const (by rfl) T.k_MESSAGE_RECEIVED) (pa_nil))) (pa_cons (pe_bm PySem.F.plainAttrs_list PySem.F.slot_list_count PySem.F.type_list_count mt_lcount (pv 1) (pa_cons (pe_const (by rfl) T.k_ACKNOWLEDGED_INCREASES) (pa_nil))) (pa_nil))))))))),
 pure_perform_exchange T vs H Q E h⟩)
theorem ok_sites_refusal (T : Txt K mg A) : Ok P w K mg base 2 A.f_sites_refusal ["network", "numbers", "others_fit"] (sp_sites_refusal K A) :=
  T.f_sites_refusal.ok sc_sites_refusal (len_sites_refusal) (fun cdv Ar outer s H vs Q E hr h => ⟨t_sites_refusal K A,
 pss_cons (ps_if (pt_not (pt_truth (pe_fld (pv 0) rfl) (by intro _; rfl)))
 (pss_one (ps_ret (pe_const (by rfl) T.k_NO_SITES)))
 (pss_nil))
 (pss_cons (ps_if (PW.pt (pw_or (pt_not (pt_val (pv 2))) (pw_or1 (pt_not (pt_val (pe_callB (cr_all rfl) (by rfl) T.b_all (by decide +kernel) (pa_cons (pe_lc (own := [("number", 3)]) (g := gName 3) (tt := tYes) rfl sc_sites_refusal.nd (pi_list (pv 1)) (blkOk_by (own := [("number", 3)]) (N := ["network", "numbers", "others_fit", "number"]) (sc := defScope s_sites_refusal) (by decide +kernel)) (fun _ _ _ _ _ => pg_name (i := 3) sc_sites_refusal.nd rfl (Or.inl rfl)) (fun _ _ _ _ _ => pts_nil) (fun _ _ _ _ _ => pe_callO (ok_is_site_number T) (hr.mono (by decide)) (by rfl) T.f_is_site_number.g T.f_is_site_number.kp (pa_cons (pv 3) (pa_nil)))) (pa_nil))))))))
 (pss_one (ps_ret (pe_const (by rfl) T.k_OUTSIDE_LIMITS)))
 (pss_nil))
 (pss_cons (ps_if (pt_val (pe_callB (cr_any rfl) (by rfl) T.b_any (by decide +kernel) (pa_cons (pe_lc (own := [("number", 3)]) (g := gName 3) (tt := tYes) rfl sc_sites_refusal.nd (pi_list (pv 1)) (blkOk_by (own := [("number", 3)]) (N := ["network", "numbers", "others_fit", "number"]) (sc := defScope s_sites_refusal) (by decide +kernel)) (fun _ _ _ _ _ => pg_name (i := 3) sc_sites_refusal.nd rfl (Or.inl rfl)) (fun _ _ _ _ _ => pts_nil) (fun _ _ _ _ _ => pe_cmpR (op_gt) (pv 3) (pe_callB call_len_seq (by rfl) T.b_len PySem.boot_len (pa_cons (pe_fld (pv 0) rfl) (pa_nil))) (nomark _))) (pa_nil))))
 (pss_one (ps_ret (pe_const (by rfl) T.k_NO_SUCH_SITE)))
 (pss_nil))
 (pss_one (ps_ret (pe_int))))),
 pure_sites_refusal T vs H Q E h⟩)
theorem ok_pair_refusal (T : Txt K mg A) : Ok P w K mg base 3 A.f_pair_refusal ["network", "one", "other", "others_fit"] (sp_pair_refusal K A) :=
  T.f_pair_refusal.ok sc_pair_refusal (len_pair_refusal) (fun cdv Ar outer s H vs Q E hr h => ⟨t_pair_refusal K A,
 pss_cons (ps_set (i := 4) sc_pair_refusal.nd rfl (by first | exact Or.inl rfl | exact Or.inr rfl) (pe_callO (ok_sites_refusal T) (hr.mono (by decide)) (by rfl) T.f_sites_refusal.g T.f_sites_refusal.kp (pa_cons (pv 0) (pa_cons (pe_lst (pa_cons (pv 1) (pa_cons (pv 2) (pa_nil)))) (pa_cons (pv 3) (pa_nil))))))
 (pss_cons (ps_if (PW.pt (pw_and (pt_cmpR (op_eq) (pv 4) (pe_int) (nomark _)) (pw_and1 (pt_cmpR (op_eq) (pv 1) (pv 2) (nomark _)))))
 (pss_one (ps_ret (pe_const (by rfl) T.k_SAME_SITE)))
 (pss_nil))
 (pss_one (ps_ret (pv 4)))),
 pure_pair_refusal T vs H Q E h⟩)
theorem ok_packet_refusal (T : Txt K mg A) : Ok P w K mg base 3 A.f_packet_refusal ["network", "index", "others_fit"] (sp_packet_refusal K A) :=
  T.f_packet_refusal.ok sc_packet_refusal (len_packet_refusal) (fun cdv Ar outer s H vs Q E hr h => ⟨t_packet_refusal K A,
 pss_cons (ps_set (i := 3) sc_packet_refusal.nd rfl (by first | exact Or.inl rfl | exact Or.inr rfl) (pe_callO (ok_sites_refusal T) (hr.mono (by decide)) (by rfl) T.f_sites_refusal.g T.f_sites_refusal.kp (pa_cons (pv 0) (pa_cons (pe_lst (pa_nil)) (pa_cons (pv 2) (pa_nil))))))
 (pss_cons (ps_if (PW.pt (pw_and (pt_cmpR (op_eq) (pv 3) (pe_int) (nomark _)) (pw_and1 (pt_not (pt_chain op_le op_lt (pe_int) (pv 1) (pe_callB call_len_seq (by rfl) T.b_len PySem.boot_len (pa_cons (pe_fld (pv 0) rfl) (pa_nil))))))))
 (pss_one (ps_ret (pe_const (by rfl) T.k_NO_SUCH_PACKET)))
 (pss_nil))
 (pss_one (ps_ret (pv 3)))),
 pure_packet_refusal T vs H Q E h⟩)
theorem ok_create_sites (T : Txt K mg A) : Ok P w K mg base 6 A.f_create_sites ["network", "count"] (sp_create_sites K A) :=
  T.f_create_sites.ok sc_create_sites (len_create_sites) (fun cdv Ar outer s H vs Q E hr h => ⟨t_create_sites K A,
 pss_cons (ps_if (pt_truth (pe_fld (pv 0) rfl) (by intro _; rfl))
 (pss_one (ps_ret (pe_lst (pa_cons (pe_const (by rfl) T.k_SITES_ALREADY) (pa_nil)))))
 (pss_nil))
 (pss_cons (ps_if (pt_not (pt_chain op_le op_le (pe_const (by rfl) T.k_FEWEST_SITES) (pv 1) (pe_const (by rfl) T.k_MOST_SITES)))
 (pss_one (ps_ret (pe_lst (pa_cons (pe_const (by rfl) T.k_OUTSIDE_LIMITS) (pa_nil)))))
 (pss_nil))
 (pss_cons (ps_expr (pe_methO (pv 0) T.cl_Network T.f_Network_add_sites.m (ok_Network_add_sites T) (hr.mono (by decide)) (pa_cons (pv 1) (pa_nil))))
 (pss_one (ps_ret (pe_lst (pa_cons (pe_int) (pa_cons (pv 1) (pa_nil)))))))),
 pure_create_sites T vs H Q E h⟩)
theorem ok_post (T : Txt K mg A) : Ok P w K mg base 4 A.f_post ["network", "sender", "receiver", "payload"] (sp_post K A) :=
  T.f_post.ok sc_post (len_post) (fun cdv Ar outer s H vs Q E hr h => ⟨t_post K A,
 pss_cons (ps_set (i := 4) sc_post.nd rfl (by first | exact Or.inl rfl | exact Or.inr rfl) (pe_callO (ok_pair_refusal T) (hr.mono (by decide)) (by rfl) T.f_pair_refusal.g T.f_pair_refusal.kp (pa_cons (pv 0) (pa_cons (pv 1) (pa_cons (pv 2) (pa_cons (pe_callO (ok_is_payload T) (hr.mono (by decide)) (by rfl) T.f_is_payload.g T.f_is_payload.kp (pa_cons (pv 3) (pa_nil))) (pa_nil)))))))
 (pss_cons (ps_if (pt_cmpR (op_ne) (pv 4) (pe_int) (nomark _))
 (pss_one (ps_ret (pe_lst (pa_cons (pv 4) (pa_nil)))))
 (pss_nil))
 (pss_cons (ps_set (i := 5) sc_post.nd rfl (by first | exact Or.inl rfl | exact Or.inr rfl) (pe_fld (pe_methO (pv 0) T.cl_Network T.f_Network_site.m (ok_Network_site T) (hr.mono (by decide)) (pa_cons (pv 1) (pa_nil))) rfl))
 (pss_cons (ps_if (pt_cmpR (op_ge) (pe_meth0O (pv 5) T.cl_SiteCopy T.f_SiteCopy_sent_count.m (ok_SiteCopy_sent_count T) (hr.mono (by decide))) (pe_const (by rfl) T.k_MOST_MESSAGES) (nomark _))
 (pss_one (ps_ret (pe_lst (pa_cons (pe_const (by rfl) T.k_LIMIT_REACHED) (pa_nil)))))
 (pss_nil))
 (pss_cons (ps_expr (pe_bm PySem.F.plainAttrs_list PySem.F.slot_list_append PySem.F.type_list_append mt_append (pe_ix ix_list (pe_fld (pv 5) rfl) (pv 2) (fun _ _ => rfl)) (pa_cons (pv 3) (pa_nil))))
 (pss_one (ps_ret (pe_lst (pa_cons (pe_int) (pa_cons (pe_callB call_len_seq (by rfl) T.b_len PySem.boot_len (pa_cons (pe_ix ix_list (pe_fld (pv 5) rfl) (pv 2) (fun _ _ => rfl)) (pa_nil))) (pa_nil)))))))))),
 pure_post T vs H Q E h⟩)
theorem ok_sync (T : Txt K mg A) : Ok P w K mg base 5 A.f_sync ["network", "number"] (sp_sync K A) :=
  T.f_sync.ok sc_sync (len_sync) (fun cdv Ar outer s H vs Q E hr h => ⟨t_sync K A,
 pss_cons (ps_set (i := 2) sc_sync.nd rfl (by first | exact Or.inl rfl | exact Or.inr rfl) (pe_callO (ok_sites_refusal T) (hr.mono (by decide)) (by rfl) T.f_sites_refusal.g T.f_sites_refusal.kp (pa_cons (pv 0) (pa_cons (pe_lst (pa_cons (pv 1) (pa_nil))) (pa_cons (pe_bl) (pa_nil))))))
 (pss_cons (ps_if (pt_cmpR (op_ne) (pv 2) (pe_int) (nomark _))
 (pss_one (ps_ret (pe_lst (pa_cons (pv 2) (pa_nil)))))
 (pss_nil))
 (pss_one (ps_ret (pe_op op_cat (pe_lst (pa_cons (pe_int) (pa_nil))) (pe_meth0O (pe_methO (pv 0) T.cl_Network T.f_Network_site.m (ok_Network_site T) (hr.mono (by decide)) (pa_cons (pv 1) (pa_nil))) T.cl_Site T.f_Site_sync.m (ok_Site_sync T) (hr.mono (by decide))))))),
 pure_sync T vs H Q E h⟩)
theorem ok_crash (T : Txt K mg A) : Ok P w K mg base 5 A.f_crash ["network", "number"] (sp_crash K A) :=
  T.f_crash.ok sc_crash (len_crash) (fun cdv Ar outer s H vs Q E hr h => ⟨t_crash K A,
 pss_cons (ps_set (i := 2) sc_crash.nd rfl (by first | exact Or.inl rfl | exact Or.inr rfl) (pe_callO (ok_sites_refusal T) (hr.mono (by decide)) (by rfl) T.f_sites_refusal.g T.f_sites_refusal.kp (pa_cons (pv 0) (pa_cons (pe_lst (pa_cons (pv 1) (pa_nil))) (pa_cons (pe_bl) (pa_nil))))))
 (pss_cons (ps_if (pt_cmpR (op_ne) (pv 2) (pe_int) (nomark _))
 (pss_one (ps_ret (pe_lst (pa_cons (pv 2) (pa_nil)))))
 (pss_nil))
 (pss_one (ps_ret (pe_op op_cat (pe_lst (pa_cons (pe_int) (pa_nil))) (pe_meth0O (pe_methO (pv 0) T.cl_Network T.f_Network_site.m (ok_Network_site T) (hr.mono (by decide)) (pa_cons (pv 1) (pa_nil))) T.cl_Site T.f_Site_crash.m (ok_Site_crash T) (hr.mono (by decide))))))),
 pure_crash T vs H Q E h⟩)
theorem ok_at_risk (T : Txt K mg A) : Ok P w K mg base 3 A.f_at_risk ["network", "number"] (sp_at_risk K A) :=
  T.f_at_risk.ok sc_at_risk (len_at_risk) (fun cdv Ar outer s H vs Q E hr h => ⟨t_at_risk K A,
 pss_cons (ps_set (i := 2) sc_at_risk.nd rfl (by first | exact Or.inl rfl | exact Or.inr rfl) (pe_callO (ok_sites_refusal T) (hr.mono (by decide)) (by rfl) T.f_sites_refusal.g T.f_sites_refusal.kp (pa_cons (pv 0) (pa_cons (pe_lst (pa_cons (pv 1) (pa_nil))) (pa_cons (pe_bl) (pa_nil))))))
 (pss_cons (ps_if (pt_cmpR (op_ne) (pv 2) (pe_int) (nomark _))
 (pss_one (ps_ret (pe_lst (pa_cons (pv 2) (pa_nil)))))
 (pss_nil))
 (pss_one (ps_ret (pe_op op_cat (pe_lst (pa_cons (pe_int) (pa_nil))) (pe_meth0O (pe_methO (pv 0) T.cl_Network T.f_Network_site.m (ok_Network_site T) (hr.mono (by decide)) (pa_cons (pv 1) (pa_nil))) T.cl_Site T.f_Site_at_risk.m (ok_Site_at_risk T) (hr.mono (by decide))))))),
 pure_at_risk T vs H Q E h⟩)
theorem ok_transmit (T : Txt K mg A) : Ok P w K mg base 5 A.f_transmit ["network", "sender", "receiver"] (sp_transmit K A) :=
  T.f_transmit.ok sc_transmit (len_transmit) (fun cdv Ar outer s H vs Q E hr h => ⟨t_transmit K A,
 pss_cons (ps_set (i := 3) sc_transmit.nd rfl (by first | exact Or.inl rfl | exact Or.inr rfl) (pe_callO (ok_pair_refusal T) (hr.mono (by decide)) (by rfl) T.f_pair_refusal.g T.f_pair_refusal.kp (pa_cons (pv 0) (pa_cons (pv 1) (pa_cons (pv 2) (pa_cons (pe_bl) (pa_nil)))))))
 (pss_cons (ps_if (pt_cmpR (op_ne) (pv 3) (pe_int) (nomark _))
 (pss_one (ps_ret (pe_lst (pa_cons (pv 3) (pa_nil)))))
 (pss_nil))
 (pss_cons (ps_if (pt_val (pe_callO (ok_has_message T) (hr.mono (by decide)) (by rfl) T.f_has_message.g T.f_has_message.kp (pa_cons (pv 0) (pa_cons (pv 1) (pa_cons (pv 2) (pa_nil))))))
 (pss_one (ps_ret (pe_lst (pa_cons (pe_const (by rfl) T.k_MESSAGE_ON_WIRES) (pa_nil)))))
 (pss_nil))
 (pss_one (ps_ret (pe_op op_cat (pe_lst (pa_cons (pe_int) (pa_nil))) (pe_callO (ok_transmit_durable T) (hr.mono (by decide)) (by rfl) T.f_transmit_durable.g T.f_transmit_durable.kp (pa_cons (pv 0) (pa_cons (pv 1) (pa_cons (pv 2) (pa_nil)))))))))),
 pure_transmit T vs H Q E h⟩)
theorem ok_deliver (T : Txt K mg A) : Ok P w K mg base 5 A.f_deliver ["network", "index"] (sp_deliver K A) :=
  T.f_deliver.ok sc_deliver (len_deliver) (fun cdv Ar outer s H vs Q E hr h => ⟨t_deliver K A,
 pss_cons (ps_set (i := 2) sc_deliver.nd rfl (by first | exact Or.inl rfl | exact Or.inr rfl) (pe_callO (ok_packet_refusal T) (hr.mono (by decide)) (by rfl) T.f_packet_refusal.g T.f_packet_refusal.kp (pa_cons (pv 0) (pa_cons (pv 1) (pa_cons (pe_bl) (pa_nil))))))
 (pss_cons (ps_if (pt_cmpR (op_ne) (pv 2) (pe_int) (nomark _))
 (pss_one (ps_ret (pe_lst (pa_cons (pv 2) (pa_nil)))))
 (pss_nil))
 (pss_one (ps_ret (pe_op op_cat (pe_lst (pa_cons (pe_int) (pa_nil))) (pe_callO (ok_deliver_packet T) (hr.mono (by decide)) (by rfl) T.f_deliver_packet.g T.f_deliver_packet.kp (pa_cons (pv 0) (pa_cons (pv 1) (pa_nil)))))))),
 pure_deliver T vs H Q E h⟩)
theorem ok_lose (T : Txt K mg A) : Ok P w K mg base 4 A.f_lose ["network", "index"] (sp_lose K A) :=
  T.f_lose.ok sc_lose (len_lose) (fun cdv Ar outer s H vs Q E hr h => ⟨t_lose K A,
 pss_cons (ps_set (i := 2) sc_lose.nd rfl (by first | exact Or.inl rfl | exact Or.inr rfl) (pe_callO (ok_packet_refusal T) (hr.mono (by decide)) (by rfl) T.f_packet_refusal.g T.f_packet_refusal.kp (pa_cons (pv 0) (pa_cons (pv 1) (pa_cons (pe_bl) (pa_nil))))))
 (pss_cons (ps_if (pt_cmpR (op_ne) (pv 2) (pe_int) (nomark _))
 (pss_one (ps_ret (pe_lst (pa_cons (pv 2) (pa_nil)))))
 (pss_nil))
 (pss_cons (ps_expr (pe_bm PySem.F.plainAttrs_list PySem.F.slot_list_pop PySem.F.type_list_pop mt_popAt (pe_fld (pv 0) rfl) (pa_cons (pv 1) (pa_nil))))
 (pss_one (ps_ret (pe_lst (pa_cons (pe_int) (pa_cons (pe_callB call_len_seq (by rfl) T.b_len PySem.boot_len (pa_cons (pe_fld (pv 0) rfl) (pa_nil))) (pa_nil)))))))),
 pure_lose T vs H Q E h⟩)
theorem ok_duplicate (T : Txt K mg A) : Ok P w K mg base 4 A.f_duplicate ["network", "index"] (sp_duplicate K A) :=
  T.f_duplicate.ok sc_duplicate (len_duplicate) (fun cdv Ar outer s H vs Q E hr h => ⟨t_duplicate K A,
 pss_cons (ps_set (i := 2) sc_duplicate.nd rfl (by first | exact Or.inl rfl | exact Or.inr rfl) (pe_callO (ok_packet_refusal T) (hr.mono (by decide)) (by rfl) T.f_packet_refusal.g T.f_packet_refusal.kp (pa_cons (pv 0) (pa_cons (pv 1) (pa_cons (pe_bl) (pa_nil))))))
 (pss_cons (ps_if (pt_cmpR (op_ne) (pv 2) (pe_int) (nomark _))
 (pss_one (ps_ret (pe_lst (pa_cons (pv 2) (pa_nil)))))
 (pss_nil))
 (pss_cons (ps_if (pt_cmpR (op_ge) (pe_fld (pv 0) rfl) (pe_const (by rfl) T.k_MOST_DUPLICATED) (nomark _))
 (pss_one (ps_ret (pe_lst (pa_cons (pe_const (by rfl) T.k_LIMIT_REACHED) (pa_nil)))))
 (pss_nil))
 (pss_cons (ps_expr (pe_bm PySem.F.plainAttrs_list PySem.F.slot_list_append PySem.F.type_list_append mt_append (pe_fld (pv 0) rfl) (pa_cons (pe_meth0O (pe_ix ix_list (pe_fld (pv 0) rfl) (pv 1) (fun _ _ => rfl)) T.cl_WirePacket T.f_WirePacket_twin.m (ok_WirePacket_twin T) (hr.mono (by decide))) (pa_nil))))
 (pss_cons (ps_fld (pv 0) (pe_op op_add (pe_fld (pv 0) rfl) (pe_int)) rfl)
 (pss_one (ps_ret (pe_lst (pa_cons (pe_int) (pa_cons (pe_callB call_len_seq (by rfl) T.b_len PySem.boot_len (pa_cons (pe_fld (pv 0) rfl) (pa_nil))) (pa_nil)))))))))),
 pure_duplicate T vs H Q E h⟩)
theorem ok_damage (T : Txt K mg A) : Ok P w K mg base 4 A.f_damage ["network", "index", "position", "value"] (sp_damage K A) :=
  T.f_damage.ok sc_damage (len_damage) (fun cdv Ar outer s H vs Q E hr h => ⟨t_damage K A,
 pss_cons (ps_set (i := 4) sc_damage.nd rfl (by first | exact Or.inl rfl | exact Or.inr rfl) (pe_callO (ok_packet_refusal T) (hr.mono (by decide)) (by rfl) T.f_packet_refusal.g T.f_packet_refusal.kp (pa_cons (pv 0) (pa_cons (pv 1) (pa_cons (pe_callO (ok_is_octet T) (hr.mono (by decide)) (by rfl) T.f_is_octet.g T.f_is_octet.kp (pa_cons (pv 3) (pa_nil))) (pa_nil))))))
 (pss_cons (ps_if (pt_cmpR (op_ne) (pv 4) (pe_int) (nomark _))
 (pss_one (ps_ret (pe_lst (pa_cons (pv 4) (pa_nil)))))
 (pss_nil))
 (pss_cons (ps_set (i := 5) sc_damage.nd rfl (by first | exact Or.inl rfl | exact Or.inr rfl) (pe_ix ix_list (pe_fld (pv 0) rfl) (pv 1) (fun _ _ => rfl)))
 (pss_cons (ps_if (PW.pt (pw_or (pt_val (pe_fld (pv 5) rfl)) (pw_or1 (pt_not (pt_chain op_le op_lt (pe_int) (pv 2) (pe_callB call_len_seq (by rfl) T.b_len PySem.boot_len (pa_cons (pe_fld (pv 5) rfl) (pa_nil))))))))
 (pss_one (ps_ret (pe_lst (pa_cons (pe_const (by rfl) T.k_NOT_POSSIBLE) (pa_nil)))))
 (pss_nil))
 (pss_cons (ps_set (i := 6) sc_damage.nd rfl (by first | exact Or.inl rfl | exact Or.inr rfl) (pe_ix ix_list (pe_fld (pv 5) rfl) (pv 2) (fun _ _ => rfl)))
 (pss_cons (ps_if (pt_cmpR (op_eq) (pv 6) (pv 3) (nomark _))
 (pss_one (ps_ret (pe_lst (pa_cons (pe_const (by rfl) T.k_NOT_POSSIBLE) (pa_nil)))))
 (pss_nil))
 (pss_cons (ps_asg (pv 3) (pg_sub (pe_fld (pv 5) rfl) (pv 2) set_list))
 (pss_cons (ps_fld (pv 5) (pe_bl) rfl)
 (pss_one (ps_ret (pe_lst (pa_cons (pe_int) (pa_cons (pv 6) (pa_nil))))))))))))),
 pure_damage T vs H Q E h⟩)
theorem ok_exchange (T : Txt K mg A) : Ok P w K mg base 7 A.f_exchange ["network"] (sp_exchange K A) :=
  T.f_exchange.ok sc_exchange (len_exchange) (fun cdv Ar outer s H vs Q E hr h => ⟨t_exchange K A,
 pss_cons (ps_set (i := 1) sc_exchange.nd rfl (by first | exact Or.inl rfl | exact Or.inr rfl) (pe_callO (ok_sites_refusal T) (hr.mono (by decide)) (by rfl) T.f_sites_refusal.g T.f_sites_refusal.kp (pa_cons (pv 0) (pa_cons (pe_lst (pa_nil)) (pa_cons (pe_bl) (pa_nil))))))
 (pss_cons (ps_if (pt_cmpR (op_ne) (pv 1) (pe_int) (nomark _))
 (pss_one (ps_ret (pe_lst (pa_cons (pv 1) (pa_nil)))))
 (pss_nil))
 (pss_one (ps_ret (pe_op op_cat (pe_lst (pa_cons (pe_int) (pa_nil))) (pe_callO (ok_perform_exchange T) (hr.mono (by decide)) (by rfl) T.f_perform_exchange.g T.f_perform_exchange.kp (pa_cons (pv 0) (pa_nil))))))),
 pure_exchange T vs H Q E h⟩)
theorem ok_answer_change (T : Txt K mg A) : Ok P w K mg base 8 A.f_answer_change ["network", "operation", "numbers", "row"] (sp_answer_change K A) :=
  T.f_answer_change.ok sc_answer_change (len_answer_change) (fun cdv Ar outer s H vs Q E hr h => ⟨t_answer_change K A,
 pss_cons (ps_if (pt_cmpR (op_eq) (pv 1) (pe_int) (nomark _))
 (pss_one (ps_ret (pe_callO (ok_create_sites T) (hr.mono (by decide)) (by rfl) T.f_create_sites.g T.f_create_sites.kp (pa_cons (pv 0) (pa_cons (pe_ix ix_list (pv 2) (pe_int) (fun _ _ => rfl)) (pa_nil))))))
 (pss_nil))
 (pss_cons (ps_if (pt_cmpR (op_eq) (pv 1) (pe_int) (nomark _))
 (pss_one (ps_ret (pe_callO (ok_post T) (hr.mono (by decide)) (by rfl) T.f_post.g T.f_post.kp (pa_cons (pv 0) (pa_cons (pe_ix ix_list (pv 2) (pe_int) (fun _ _ => rfl)) (pa_cons (pe_ix ix_list (pv 2) (pe_int) (fun _ _ => rfl)) (pa_cons (pv 3) (pa_nil))))))))
 (pss_nil))
 (pss_cons (ps_if (pt_cmpR (op_eq) (pv 1) (pe_int) (nomark _))
 (pss_one (ps_ret (pe_callO (ok_sync T) (hr.mono (by decide)) (by rfl) T.f_sync.g T.f_sync.kp (pa_cons (pv 0) (pa_cons (pe_ix ix_list (pv 2) (pe_int) (fun _ _ => rfl)) (pa_nil))))))
 (pss_nil))
 (pss_cons (ps_if (pt_cmpR (op_eq) (pv 1) (pe_int) (nomark _))
 (pss_one (ps_ret (pe_callO (ok_crash T) (hr.mono (by decide)) (by rfl) T.f_crash.g T.f_crash.kp (pa_cons (pv 0) (pa_cons (pe_ix ix_list (pv 2) (pe_int) (fun _ _ => rfl)) (pa_nil))))))
 (pss_nil))
 (pss_cons (ps_if (pt_cmpR (op_eq) (pv 1) (pe_int) (nomark _))
 (pss_one (ps_ret (pe_callO (ok_at_risk T) (hr.mono (by decide)) (by rfl) T.f_at_risk.g T.f_at_risk.kp (pa_cons (pv 0) (pa_cons (pe_ix ix_list (pv 2) (pe_int) (fun _ _ => rfl)) (pa_nil))))))
 (pss_nil))
 (pss_cons (ps_if (pt_cmpR (op_eq) (pv 1) (pe_int) (nomark _))
 (pss_one (ps_ret (pe_callO (ok_transmit T) (hr.mono (by decide)) (by rfl) T.f_transmit.g T.f_transmit.kp (pa_cons (pv 0) (pa_cons (pe_ix ix_list (pv 2) (pe_int) (fun _ _ => rfl)) (pa_cons (pe_ix ix_list (pv 2) (pe_int) (fun _ _ => rfl)) (pa_nil)))))))
 (pss_nil))
 (pss_cons (ps_if (pt_cmpR (op_eq) (pv 1) (pe_int) (nomark _))
 (pss_one (ps_ret (pe_callO (ok_deliver T) (hr.mono (by decide)) (by rfl) T.f_deliver.g T.f_deliver.kp (pa_cons (pv 0) (pa_cons (pe_ix ix_list (pv 2) (pe_int) (fun _ _ => rfl)) (pa_nil))))))
 (pss_nil))
 (pss_cons (ps_if (pt_cmpR (op_eq) (pv 1) (pe_int) (nomark _))
 (pss_one (ps_ret (pe_callO (ok_lose T) (hr.mono (by decide)) (by rfl) T.f_lose.g T.f_lose.kp (pa_cons (pv 0) (pa_cons (pe_ix ix_list (pv 2) (pe_int) (fun _ _ => rfl)) (pa_nil))))))
 (pss_nil))
 (pss_cons (ps_if (pt_cmpR (op_eq) (pv 1) (pe_int) (nomark _))
 (pss_one (ps_ret (pe_callO (ok_duplicate T) (hr.mono (by decide)) (by rfl) T.f_duplicate.g T.f_duplicate.kp (pa_cons (pv 0) (pa_cons (pe_ix ix_list (pv 2) (pe_int) (fun _ _ => rfl)) (pa_nil))))))
 (pss_nil))
 (pss_cons (ps_if (pt_cmpR (op_eq) (pv 1) (pe_int) (nomark _))
 (pss_one (ps_ret (pe_callO (ok_damage T) (hr.mono (by decide)) (by rfl) T.f_damage.g T.f_damage.kp (pa_cons (pv 0) (pa_cons (pe_ix ix_list (pv 2) (pe_int) (fun _ _ => rfl)) (pa_cons (pe_ix ix_list (pv 2) (pe_int) (fun _ _ => rfl)) (pa_cons (pe_ix ix_list (pv 2) (pe_int) (fun _ _ => rfl)) (pa_nil))))))))
 (pss_nil))
 (pss_one (ps_ret (pe_callO (ok_exchange T) (hr.mono (by decide)) (by rfl) T.f_exchange.g T.f_exchange.kp (pa_cons (pv 0) (pa_nil)))))))))))))),
 pure_answer_change T vs H Q E h⟩)
theorem ok_received (T : Txt K mg A) : Ok P w K mg base 4 A.f_received ["network", "number", "sender", "first", "count"] (sp_received K A) :=
  T.f_received.ok sc_received (len_received) (fun cdv Ar outer s H vs Q E hr h => ⟨t_received K A,
 pss_cons (ps_set (i := 5) sc_received.nd rfl (by first | exact Or.inl rfl | exact Or.inr rfl) (pe_callO (ok_pair_refusal T) (hr.mono (by decide)) (by rfl) T.f_pair_refusal.g T.f_pair_refusal.kp (pa_cons (pv 0) (pa_cons (pv 1) (pa_cons (pv 2) (pa_cons (pe_and (pe_callO (ok_is_message_number T) (hr.mono (by decide)) (by rfl) T.f_is_message_number.g T.f_is_message_number.kp (pa_cons (pv 3) (pa_nil))) (pe_one (pe_callO (ok_is_message_count T) (hr.mono (by decide)) (by rfl) T.f_is_message_count.g T.f_is_message_count.kp (pa_cons (pv 4) (pa_nil))))) (pa_nil)))))))
 (pss_cons (ps_if (pt_cmpR (op_ne) (pv 5) (pe_int) (nomark _))
 (pss_one (ps_ret (pe_lst (pa_cons (pv 5) (pa_nil)))))
 (pss_nil))
 (pss_cons (ps_set (i := 6) sc_received.nd rfl (by first | exact Or.inl rfl | exact Or.inr rfl) (pe_slice sl_list (pe_ix ix_list (pe_fld (pe_fld (pe_methO (pv 0) T.cl_Network T.f_Network_site.m (ok_Network_site T) (hr.mono (by decide)) (pa_cons (pv 1) (pa_nil))) rfl) rfl) (pv 2) (fun _ _ => rfl)) (po_some (pe_op op_sub (pv 3) (pe_int))) (po_some (pe_op op_add (pe_op op_sub (pv 3) (pe_int)) (pv 4)))))
 (pss_cons (ps_set (i := 7) sc_received.nd rfl (by first | exact Or.inl rfl | exact Or.inr rfl) (pe_lst (pa_cons (pe_int) (pa_cons (pe_callB call_len_seq (by rfl) T.b_len PySem.boot_len (pa_cons (pv 6) (pa_nil))) (pa_nil)))))
 (pss_cons (ps_for PassesOwn.never rfl (pi_list (pv 6)) (pg_name (i := 8) sc_received.nd rfl (by first | exact Or.inl rfl | exact Or.inr rfl))
 (pss_cons (ps_expr (pe_bm PySem.F.plainAttrs_list PySem.F.slot_list_append PySem.F.type_list_append mt_append (pv 7) (pa_cons (pe_callB call_len_seq (by rfl) T.b_len PySem.boot_len (pa_cons (pv 8) (pa_nil))) (pa_nil))))
 (pss_one (ps_expr (pe_bm PySem.F.plainAttrs_list PySem.F.slot_list_extend PySem.F.type_list_extend mt_extend (pv 7) (pa_cons (pv 8) (pa_nil)))))))
 (pss_one (ps_ret (pv 7))))))),
 pure_received T vs H Q E h⟩)
theorem ok_link_state (T : Txt K mg A) : Ok P w K mg base 4 A.f_link_state ["network", "number", "other", "copy_number"] (sp_link_state K A) :=
  T.f_link_state.ok sc_link_state (len_link_state) (fun cdv Ar outer s H vs Q E hr h => ⟨t_link_state K A,
 pss_cons (ps_set (i := 4) sc_link_state.nd rfl (by first | exact Or.inl rfl | exact Or.inr rfl) (pe_callO (ok_pair_refusal T) (hr.mono (by decide)) (by rfl) T.f_pair_refusal.g T.f_pair_refusal.kp (pa_cons (pv 0) (pa_cons (pv 1) (pa_cons (pv 2) (pa_cons (pe_callO (ok_is_copy_number T) (hr.mono (by decide)) (by rfl) T.f_is_copy_number.g T.f_is_copy_number.kp (pa_cons (pv 3) (pa_nil))) (pa_nil)))))))
 (pss_cons (ps_if (pt_cmpR (op_ne) (pv 4) (pe_int) (nomark _))
 (pss_one (ps_ret (pe_lst (pa_cons (pv 4) (pa_nil)))))
 (pss_nil))
 (pss_cons (ps_set (i := 5) sc_link_state.nd rfl (by first | exact Or.inl rfl | exact Or.inr rfl) (pe_fld (pe_methO (pv 0) T.cl_Network T.f_Network_site.m (ok_Network_site T) (hr.mono (by decide)) (pa_cons (pv 1) (pa_nil))) rfl))
 (pss_cons (ps_if (pt_cmpR (op_eq) (pv 3) (pe_int) (nomark _))
 (pss_one (ps_set (i := 5) sc_link_state.nd rfl (by first | exact Or.inl rfl | exact Or.inr rfl) (pe_fld (pe_methO (pv 0) T.cl_Network T.f_Network_site.m (ok_Network_site T) (hr.mono (by decide)) (pa_cons (pv 1) (pa_nil))) rfl)))
 (pss_nil))
 (pss_one (ps_ret (pe_lst (pa_cons (pe_int) (pa_cons (pe_callB call_len_seq (by rfl) T.b_len PySem.boot_len (pa_cons (pe_ix ix_list (pe_fld (pv 5) rfl) (pv 2) (fun _ _ => rfl)) (pa_nil))) (pa_cons (pe_ix ix_list (pe_fld (pv 5) rfl) (pv 2) (fun _ _ => rfl)) (pa_cons (pe_callB call_len_seq (by rfl) T.b_len PySem.boot_len (pa_cons (pe_ix ix_list (pe_fld (pv 5) rfl) (pv 2) (fun _ _ => rfl)) (pa_nil))) (pa_nil))))))))))),
 pure_link_state T vs H Q E h⟩)
theorem ok_unsettled (T : Txt K mg A) : Ok P w K mg base 4 A.f_unsettled ["network", "sender", "receiver"] (sp_unsettled K A) :=
  T.f_unsettled.ok sc_unsettled (len_unsettled) (fun cdv Ar outer s H vs Q E hr h => ⟨t_unsettled K A,
 pss_cons (ps_set (i := 3) sc_unsettled.nd rfl (by first | exact Or.inl rfl | exact Or.inr rfl) (pe_callO (ok_pair_refusal T) (hr.mono (by decide)) (by rfl) T.f_pair_refusal.g T.f_pair_refusal.kp (pa_cons (pv 0) (pa_cons (pv 1) (pa_cons (pv 2) (pa_cons (pe_bl) (pa_nil)))))))
 (pss_cons (ps_if (pt_cmpR (op_ne) (pv 3) (pe_int) (nomark _))
 (pss_one (ps_ret (pe_lst (pa_cons (pv 3) (pa_nil)))))
 (pss_nil))
 (pss_cons (ps_set (i := 4) sc_unsettled.nd rfl (by first | exact Or.inl rfl | exact Or.inr rfl) (pe_fld (pe_methO (pv 0) T.cl_Network T.f_Network_site.m (ok_Network_site T) (hr.mono (by decide)) (pa_cons (pv 1) (pa_nil))) rfl))
 (pss_cons (ps_set (i := 5) sc_unsettled.nd rfl (by first | exact Or.inl rfl | exact Or.inr rfl) (pe_ix ix_list (pe_fld (pv 4) rfl) (pv 2) (fun _ _ => rfl)))
 (pss_cons (ps_set (i := 6) sc_unsettled.nd rfl (by first | exact Or.inl rfl | exact Or.inr rfl) (pe_op op_sub (pe_callB call_len_seq (by rfl) T.b_len PySem.boot_len (pa_cons (pe_ix ix_list (pe_fld (pv 4) rfl) (pv 2) (fun _ _ => rfl)) (pa_nil))) (pv 5)))
 (pss_cons (ps_if (pt_cmpR (op_eq) (pv 6) (pe_int) (nomark _))
 (pss_one (ps_ret (pe_lst (pa_cons (pe_int) (pa_cons (pe_int) (pa_cons (pe_int) (pa_nil)))))))
 (pss_nil))
 (pss_one (ps_ret (pe_lst (pa_cons (pe_int) (pa_cons (pv 6) (pa_cons (pe_op op_add (pv 5) (pe_int)) (pa_nil)))))))))))),
 pure_unsettled T vs H Q E h⟩)
theorem ok_listed_fields (T : Txt K mg A) : Ok P w K mg base 1 A.f_listed_fields ["packet"] (sp_listed_fields K A) :=
  T.f_listed_fields.ok sc_listed_fields (len_listed_fields) (fun cdv Ar outer s H vs Q E hr h => ⟨t_listed_fields K A,
 pss_cons (ps_if (pt_cmpR (op_isN) (pv 0) (pe_non) (nomark _))
 (pss_one (ps_ret (pe_lst (pa_cons (pe_int) (pa_cons (pe_int) (pa_cons (pe_int) (pa_cons (pe_int) (pa_nil))))))))
 (pss_nil))
 (pss_one (ps_ret (pe_lst (pa_cons (pe_fld (pv 0) rfl) (pa_cons (pe_fld (pv 0) rfl) (pa_cons (pe_fld (pv 0) rfl) (pa_cons (pe_fld (pv 0) rfl) (pa_nil)))))))),
 pure_listed_fields T vs H Q E h⟩)
theorem ok_list_packets (T : Txt K mg A) : Ok P w K mg base 4 A.f_list_packets ["network"] (sp_list_packets K A) :=
  T.f_list_packets.ok sc_list_packets (len_list_packets) (fun cdv Ar outer s H vs Q E hr h => ⟨t_list_packets K A,
 pss_cons (ps_set (i := 1) sc_list_packets.nd rfl (by first | exact Or.inl rfl | exact Or.inr rfl) (pe_callO (ok_sites_refusal T) (hr.mono (by decide)) (by rfl) T.f_sites_refusal.g T.f_sites_refusal.kp (pa_cons (pv 0) (pa_cons (pe_lst (pa_nil)) (pa_cons (pe_bl) (pa_nil))))))
 (pss_cons (ps_if (pt_cmpR (op_ne) (pv 1) (pe_int) (nomark _))
 (pss_one (ps_ret (pe_lst (pa_cons (pv 1) (pa_nil)))))
 (pss_nil))
 (pss_cons (ps_set (i := 2) sc_list_packets.nd rfl (by first | exact Or.inl rfl | exact Or.inr rfl) (pe_lst (pa_cons (pe_int) (pa_cons (pe_callB call_len_seq (by rfl) T.b_len PySem.boot_len (pa_cons (pe_fld (pv 0) rfl) (pa_nil))) (pa_nil)))))
 (pss_cons (ps_for PassesOwn.never rfl (pi_list (pe_fld (pv 0) rfl)) (pg_name (i := 3) sc_list_packets.nd rfl (by first | exact Or.inl rfl | exact Or.inr rfl))
 (pss_one (ps_expr (pe_bm PySem.F.plainAttrs_list PySem.F.slot_list_extend PySem.F.type_list_extend mt_extend (pv 2) (pa_cons (pe_callO (ok_listed_fields T) (hr.mono (by decide)) (by rfl) T.f_listed_fields.g T.f_listed_fields.kp (pa_cons (pe_callO (ok_packet_of T) (hr.mono (by decide)) (by rfl) T.f_packet_of.g T.f_packet_of.kp (pa_cons (pe_fld (pv 3) rfl) (pa_nil))) (pa_nil))) (pa_nil))))))
 (pss_one (ps_ret (pv 2)))))),
 pure_list_packets T vs H Q E h⟩)
theorem ok_packet_bytes (T : Txt K mg A) : Ok P w K mg base 4 A.f_packet_bytes ["network", "index"] (sp_packet_bytes K A) :=
  T.f_packet_bytes.ok sc_packet_bytes (len_packet_bytes) (fun cdv Ar outer s H vs Q E hr h => ⟨t_packet_bytes K A,
 pss_cons (ps_set (i := 2) sc_packet_bytes.nd rfl (by first | exact Or.inl rfl | exact Or.inr rfl) (pe_callO (ok_packet_refusal T) (hr.mono (by decide)) (by rfl) T.f_packet_refusal.g T.f_packet_refusal.kp (pa_cons (pv 0) (pa_cons (pv 1) (pa_cons (pe_bl) (pa_nil))))))
 (pss_cons (ps_if (pt_cmpR (op_ne) (pv 2) (pe_int) (nomark _))
 (pss_one (ps_ret (pe_lst (pa_cons (pv 2) (pa_nil)))))
 (pss_nil))
 (pss_one (ps_ret (pe_op op_cat (pe_lst (pa_cons (pe_int) (pa_nil))) (pe_fld (pe_ix ix_list (pe_fld (pv 0) rfl) (pv 1) (fun _ _ => rfl)) rfl))))),
 pure_packet_bytes T vs H Q E h⟩)
theorem ok_all_arrived (T : Txt K mg A) : Ok P w K mg base 2 A.f_all_arrived ["network"] (sp_all_arrived K A) :=
  T.f_all_arrived.ok sc_all_arrived (len_all_arrived) (fun cdv Ar outer s H vs Q E hr h => ⟨t_all_arrived K A,
 pss_cons (ps_for PassesOwn.never rfl (pi_list (pe_meth0O (pv 0) T.cl_Network T.f_Network_pairs.m (ok_Network_pairs T) (hr.mono (by decide)))) (pg_tup rfl (pgs_cons (pg_name (i := 1) sc_all_arrived.nd rfl (by first | exact Or.inl rfl | exact Or.inr rfl)) (pgs_cons (pg_name (i := 2) sc_all_arrived.nd rfl (by first | exact Or.inl rfl | exact Or.inr rfl)) (pgs_nil))))
 (pss_cons (ps_set (i := 3) sc_all_arrived.nd rfl (by first | exact Or.inl rfl | exact Or.inr rfl) (pe_fld (pe_methO (pv 0) T.cl_Network T.f_Network_site.m (ok_Network_site T) (hr.mono (by decide)) (pa_cons (pv 1) (pa_nil))) rfl))
 (pss_cons (ps_set (i := 4) sc_all_arrived.nd rfl (by first | exact Or.inl rfl | exact Or.inr rfl) (pe_callB call_len_seq (by rfl) T.b_len PySem.boot_len (pa_cons (pe_ix ix_list (pe_fld (pv 3) rfl) (pv 2) (fun _ _ => rfl)) (pa_nil))))
 (pss_one (ps_if (PW.pt (pw_or (pt_cmpR (op_ne) (pe_callB call_len_seq (by rfl) T.b_len PySem.boot_len (pa_cons (pe_ix ix_list (pe_fld (pe_fld (pe_methO (pv 0) T.cl_Network T.f_Network_site.m (ok_Network_site T) (hr.mono (by decide)) (pa_cons (pv 2) (pa_nil))) rfl) rfl) (pv 1) (fun _ _ => rfl)) (pa_nil))) (pv 4) (nomark _)) (pw_or1 (pt_cmpR (op_ne) (pe_ix ix_list (pe_fld (pv 3) rfl) (pv 2) (fun _ _ => rfl)) (pv 4) (nomark _)))))
 (pss_one (ps_ret (pe_bl)))
 (pss_nil))))))
 (pss_one (ps_ret (pe_bl))),
 pure_all_arrived T vs H Q E h⟩)
theorem ok_all_durable (T : Txt K mg A) : Ok P w K mg base 2 A.f_all_durable ["network"] (sp_all_durable K A) :=
  T.f_all_durable.ok sc_all_durable (len_all_durable) (fun cdv Ar outer s H vs Q E hr h => ⟨t_all_durable K A,
 pss_one (ps_ret (pe_callB (cr_all rfl) (by rfl) T.b_all (by decide +kernel) (pa_cons (pe_lc (own := [("site", 1)]) (g := gName 1) (tt := tYes) rfl sc_all_durable.nd (pi_list (pe_fld (pv 0) rfl)) (blkOk_by (own := [("site", 1)]) (N := ["network", "site"]) (sc := defScope s_all_durable) (by decide +kernel)) (fun _ _ _ _ _ => pg_name (i := 1) sc_all_durable.nd rfl (Or.inl rfl)) (fun _ _ _ _ _ => pts_nil) (fun _ _ _ _ _ => pe_methO (pe_fld (pv 1) rfl) T.cl_SiteCopy T.f_SiteCopy_equals.m (ok_SiteCopy_equals T) (hr.mono (by decide)) (pa_cons (pe_fld (pv 1) rfl) (pa_nil)))) (pa_nil)))),
 pure_all_durable T vs H Q E h⟩)
theorem ok_is_settled (T : Txt K mg A) : Ok P w K mg base 3 A.f_is_settled ["network"] (sp_is_settled K A) :=
  T.f_is_settled.ok sc_is_settled (len_is_settled) (fun cdv Ar outer s H vs Q E hr h => ⟨t_is_settled K A,
 pss_cons (ps_set (i := 1) sc_is_settled.nd rfl (by first | exact Or.inl rfl | exact Or.inr rfl) (pe_callO (ok_sites_refusal T) (hr.mono (by decide)) (by rfl) T.f_sites_refusal.g T.f_sites_refusal.kp (pa_cons (pv 0) (pa_cons (pe_lst (pa_nil)) (pa_cons (pe_bl) (pa_nil))))))
 (pss_cons (ps_if (pt_cmpR (op_ne) (pv 1) (pe_int) (nomark _))
 (pss_one (ps_ret (pe_lst (pa_cons (pv 1) (pa_nil)))))
 (pss_nil))
 (pss_cons (ps_if (PW.pt (pw_and (pt_cmpR (op_eq) (pe_callB call_len_seq (by rfl) T.b_len PySem.boot_len (pa_cons (pe_fld (pv 0) rfl) (pa_nil))) (pe_int) (nomark _)) (pw_and (pt_val (pe_callO (ok_all_durable T) (hr.mono (by decide)) (by rfl) T.f_all_durable.g T.f_all_durable.kp (pa_cons (pv 0) (pa_nil)))) (pw_and1 (pt_val (pe_callO (ok_all_arrived T) (hr.mono (by decide)) (by rfl) T.f_all_arrived.g T.f_all_arrived.kp (pa_cons (pv 0) (pa_nil))))))))
 (pss_one (ps_ret (pe_lst (pa_cons (pe_int) (pa_cons (pe_int) (pa_nil))))))
 (pss_nil))
 (pss_one (ps_ret (pe_lst (pa_cons (pe_int) (pa_cons (pe_int) (pa_nil)))))))),
 pure_is_settled T vs H Q E h⟩)
theorem ok_totals (T : Txt K mg A) : Ok P w K mg base 3 A.f_totals ["network"] (sp_totals K A) :=
  T.f_totals.ok sc_totals (len_totals) (fun cdv Ar outer s H vs Q E hr h => ⟨t_totals K A,
 pss_cons (ps_set (i := 1) sc_totals.nd rfl (by first | exact Or.inl rfl | exact Or.inr rfl) (pe_callO (ok_sites_refusal T) (hr.mono (by decide)) (by rfl) T.f_sites_refusal.g T.f_sites_refusal.kp (pa_cons (pv 0) (pa_cons (pe_lst (pa_nil)) (pa_cons (pe_bl) (pa_nil))))))
 (pss_cons (ps_if (pt_cmpR (op_ne) (pv 1) (pe_int) (nomark _))
 (pss_one (ps_ret (pe_lst (pa_cons (pv 1) (pa_nil)))))
 (pss_nil))
 (pss_cons (ps_set (i := 2) sc_totals.nd rfl (by first | exact Or.inl rfl | exact Or.inr rfl) (pe_callB (cr_sum rfl) (by rfl) T.b_sum (by decide +kernel) (pa_cons (pe_lc (own := [("site", 4)]) (g := gName 4) (tt := tYes) rfl sc_totals.nd (pi_list (pe_fld (pv 0) rfl)) (blkOk_by (own := [("site", 4)]) (N := ["network", "refusal", "posted", "arrived", "site"]) (sc := defScope s_totals) (by decide +kernel)) (fun _ _ _ _ _ => pg_name (i := 4) sc_totals.nd rfl (Or.inl rfl)) (fun _ _ _ _ _ => pts_nil) (fun _ _ _ _ _ => pe_meth0O (pe_fld (pv 4) rfl) T.cl_SiteCopy T.f_SiteCopy_sent_count.m (ok_SiteCopy_sent_count T) (hr.mono (by decide)))) (pa_nil))))
 (pss_cons (ps_set (i := 3) sc_totals.nd rfl (by first | exact Or.inl rfl | exact Or.inr rfl) (pe_callB (cr_sum rfl) (by rfl) T.b_sum (by decide +kernel) (pa_cons (pe_lc (own := [("site", 4)]) (g := gName 4) (tt := tYes) rfl sc_totals.nd (pi_list (pe_fld (pv 0) rfl)) (blkOk_by (own := [("site", 4)]) (N := ["network", "refusal", "posted", "arrived", "site"]) (sc := defScope s_totals) (by decide +kernel)) (fun _ _ _ _ _ => pg_name (i := 4) sc_totals.nd rfl (Or.inl rfl)) (fun _ _ _ _ _ => pts_nil) (fun _ _ _ _ _ => pe_meth0O (pe_fld (pv 4) rfl) T.cl_SiteCopy T.f_SiteCopy_received_count.m (ok_SiteCopy_received_count T) (hr.mono (by decide)))) (pa_nil))))
 (pss_one (ps_ret (pe_lst (pa_cons (pe_int) (pa_cons (pe_callB call_len_seq (by rfl) T.b_len PySem.boot_len (pa_cons (pe_fld (pv 0) rfl) (pa_nil))) (pa_cons (pe_callB call_len_seq (by rfl) T.b_len PySem.boot_len (pa_cons (pe_fld (pv 0) rfl) (pa_nil))) (pa_cons (pe_fld (pv 0) rfl) (pa_cons (pv 2) (pa_cons (pv 3) (pa_nil))))))))))))),
 pure_totals T vs H Q E h⟩)
theorem ok_answer_look (T : Txt K mg A) : Ok P w K mg base 5 A.f_answer_look ["network", "operation", "numbers"] (sp_answer_look K A) :=
  T.f_answer_look.ok sc_answer_look (len_answer_look) (fun cdv Ar outer s H vs Q E hr h => ⟨t_answer_look K A,
 pss_cons (ps_if (pt_cmpR (op_eq) (pv 1) (pe_int) (nomark _))
 (pss_one (ps_ret (pe_callO (ok_received T) (hr.mono (by decide)) (by rfl) T.f_received.g T.f_received.kp (pa_cons (pv 0) (pa_cons (pe_ix ix_list (pv 2) (pe_int) (fun _ _ => rfl)) (pa_cons (pe_ix ix_list (pv 2) (pe_int) (fun _ _ => rfl)) (pa_cons (pe_ix ix_list (pv 2) (pe_int) (fun _ _ => rfl)) (pa_cons (pe_ix ix_list (pv 2) (pe_int) (fun _ _ => rfl)) (pa_nil)))))))))
 (pss_nil))
 (pss_cons (ps_if (pt_cmpR (op_eq) (pv 1) (pe_int) (nomark _))
 (pss_one (ps_ret (pe_callO (ok_link_state T) (hr.mono (by decide)) (by rfl) T.f_link_state.g T.f_link_state.kp (pa_cons (pv 0) (pa_cons (pe_ix ix_list (pv 2) (pe_int) (fun _ _ => rfl)) (pa_cons (pe_ix ix_list (pv 2) (pe_int) (fun _ _ => rfl)) (pa_cons (pe_ix ix_list (pv 2) (pe_int) (fun _ _ => rfl)) (pa_nil))))))))
 (pss_nil))
 (pss_cons (ps_if (pt_cmpR (op_eq) (pv 1) (pe_int) (nomark _))
 (pss_one (ps_ret (pe_callO (ok_unsettled T) (hr.mono (by decide)) (by rfl) T.f_unsettled.g T.f_unsettled.kp (pa_cons (pv 0) (pa_cons (pe_ix ix_list (pv 2) (pe_int) (fun _ _ => rfl)) (pa_cons (pe_ix ix_list (pv 2) (pe_int) (fun _ _ => rfl)) (pa_nil)))))))
 (pss_nil))
 (pss_cons (ps_if (pt_cmpR (op_eq) (pv 1) (pe_int) (nomark _))
 (pss_one (ps_ret (pe_callO (ok_list_packets T) (hr.mono (by decide)) (by rfl) T.f_list_packets.g T.f_list_packets.kp (pa_cons (pv 0) (pa_nil)))))
 (pss_nil))
 (pss_cons (ps_if (pt_cmpR (op_eq) (pv 1) (pe_int) (nomark _))
 (pss_one (ps_ret (pe_callO (ok_packet_bytes T) (hr.mono (by decide)) (by rfl) T.f_packet_bytes.g T.f_packet_bytes.kp (pa_cons (pv 0) (pa_cons (pe_ix ix_list (pv 2) (pe_int) (fun _ _ => rfl)) (pa_nil))))))
 (pss_nil))
 (pss_cons (ps_if (pt_cmpR (op_eq) (pv 1) (pe_int) (nomark _))
 (pss_one (ps_ret (pe_callO (ok_is_settled T) (hr.mono (by decide)) (by rfl) T.f_is_settled.g T.f_is_settled.kp (pa_cons (pv 0) (pa_nil)))))
 (pss_nil))
 (pss_one (ps_ret (pe_callO (ok_totals T) (hr.mono (by decide)) (by rfl) T.f_totals.g T.f_totals.kp (pa_cons (pv 0) (pa_nil)))))))))),
 pure_answer_look T vs H Q E h⟩)
theorem ok_write_packet (T : Txt K mg A) : Ok P w K mg base 3 A.f_write_packet ["kind", "sender", "receiver", "number", "payload"] (sp_write_packet K A) :=
  T.f_write_packet.ok sc_write_packet (len_write_packet) (fun cdv Ar outer s H vs Q E hr h => ⟨t_write_packet K A,
 pss_cons (ps_if (PW.pt (pw_or (pt_cmpR (op_notIn_seq) (pv 0) (pe_tup (pa_cons (pe_const (by rfl) T.k_MESSAGE) (pa_cons (pe_const (by rfl) T.k_ACKNOWLEDGEMENT) (pa_nil)))) (by rfl)) (pw_or (pt_not (pt_val (pe_callO (ok_is_message_count T) (hr.mono (by decide)) (by rfl) T.f_is_message_count.g T.f_is_message_count.kp (pa_cons (pv 3) (pa_nil))))) (pw_or1 (pt_not (pt_val (pe_callO (ok_is_payload T) (hr.mono (by decide)) (by rfl) T.f_is_payload.g T.f_is_payload.kp (pa_cons (pv 4) (pa_nil)))))))))
 (pss_one (ps_ret (pe_lst (pa_cons (pe_const (by rfl) T.k_OUTSIDE_LIMITS) (pa_nil)))))
 (pss_nil))
 (pss_cons (ps_if (PW.pt (pw_or (pt_not (pt_val (pe_callO (ok_is_site_number T) (hr.mono (by decide)) (by rfl) T.f_is_site_number.g T.f_is_site_number.kp (pa_cons (pv 1) (pa_nil))))) (pw_or1 (pt_not (pt_val (pe_callO (ok_is_site_number T) (hr.mono (by decide)) (by rfl) T.f_is_site_number.g T.f_is_site_number.kp (pa_cons (pv 2) (pa_nil))))))))
 (pss_one (ps_ret (pe_lst (pa_cons (pe_const (by rfl) T.k_OUTSIDE_LIMITS) (pa_nil)))))
 (pss_nil))
 (pss_cons (ps_if (pt_cmpR (op_eq) (pv 1) (pv 2) (nomark _))
 (pss_one (ps_ret (pe_lst (pa_cons (pe_const (by rfl) T.k_SAME_SITE) (pa_nil)))))
 (pss_nil))
 (pss_cons (ps_if (PW.pt (pw_and (pt_cmpR (op_eq) (pv 0) (pe_const (by rfl) T.k_MESSAGE) (nomark _)) (pw_and1 (pt_cmpR (op_eq) (pv 3) (pe_int) (nomark _)))))
 (pss_one (ps_ret (pe_lst (pa_cons (pe_const (by rfl) T.k_NOT_POSSIBLE) (pa_nil)))))
 (pss_nil))
 (pss_cons (ps_if (PW.pt (pw_and (pt_cmpR (op_eq) (pv 0) (pe_const (by rfl) T.k_ACKNOWLEDGEMENT) (nomark _)) (pw_and1 (pt_cmpR (op_gt) (pe_callB call_len_seq (by rfl) T.b_len PySem.boot_len (pa_cons (pv 4) (pa_nil))) (pe_int) (nomark _)))))
 (pss_one (ps_ret (pe_lst (pa_cons (pe_const (by rfl) T.k_NOT_POSSIBLE) (pa_nil)))))
 (pss_nil))
 (pss_one (ps_ret (pe_op op_cat (pe_lst (pa_cons (pe_int) (pa_nil))) (pe_callO (ok_octets_of T) (hr.mono (by decide)) (by rfl) T.f_octets_of.g T.f_octets_of.kp (pa_cons (pe_makeO T.m_Packet (ok_Packet_init T) (hr.mono (by decide)) (by rfl) T.g_Packet (pa_cons (pv 0) (pa_cons (pv 1) (pa_cons (pv 2) (pa_cons (pv 3) (pa_cons (pv 4) (pa_nil))))))) (pa_nil)))))))))),
 pure_write_packet T vs H Q E h⟩)
theorem ok_read_packet (T : Txt K mg A) : Ok P w K mg base 4 A.f_read_packet ["octets"] (sp_read_packet K A) :=
  T.f_read_packet.ok sc_read_packet (len_read_packet) (fun cdv Ar outer s H vs Q E hr h => ⟨t_read_packet K A,
 pss_cons (ps_if (PW.pt (pw_or (pt_cmpR (op_gt) (pe_callB call_len_seq (by rfl) T.b_len PySem.boot_len (pa_cons (pv 0) (pa_nil))) (pe_const (by rfl) T.k_LONGEST_READ) (nomark _)) (pw_or1 (pt_not (pt_val (pe_callB (cr_all rfl) (by rfl) T.b_all (by decide +kernel) (pa_cons (pe_lc (own := [("octet", 2)]) (g := gName 2) (tt := tYes) rfl sc_read_packet.nd (pi_list (pv 0)) (blkOk_by (own := [("octet", 2)]) (N := ["octets", "packet", "octet"]) (sc := defScope s_read_packet) (by decide +kernel)) (fun _ _ _ _ _ => pg_name (i := 2) sc_read_packet.nd rfl (Or.inl rfl)) (fun _ _ _ _ _ => pts_nil) (fun _ _ _ _ _ => pe_callO (ok_is_octet T) (hr.mono (by decide)) (by rfl) T.f_is_octet.g T.f_is_octet.kp (pa_cons (pv 2) (pa_nil)))) (pa_nil))))))))
 (pss_one (ps_ret (pe_lst (pa_cons (pe_const (by rfl) T.k_OUTSIDE_LIMITS) (pa_nil)))))
 (pss_nil))
 (pss_cons (ps_set (i := 1) sc_read_packet.nd rfl (by first | exact Or.inl rfl | exact Or.inr rfl) (pe_callO (ok_packet_of T) (hr.mono (by decide)) (by rfl) T.f_packet_of.g T.f_packet_of.kp (pa_cons (pv 0) (pa_nil))))
 (pss_cons (ps_if (pt_cmpR (op_isN) (pv 1) (pe_non) (nomark _))
 (pss_one (ps_ret (pe_lst (pa_cons (pe_int) (pa_cons (pe_int) (pa_nil))))))
 (pss_nil))
 (pss_one (ps_ret (pe_op op_cat (pe_lst (pa_cons (pe_int) (pa_cons (pe_int) (pa_cons (pe_fld (pv 1) rfl) (pa_cons (pe_fld (pv 1) rfl) (pa_cons (pe_fld (pv 1) rfl) (pa_cons (pe_fld (pv 1) rfl) (pa_nil)))))))) (pe_fld (pv 1) rfl)))))),
 pure_read_packet T vs H Q E h⟩)
theorem ok_answer_packet_call (T : Txt K mg A) : Ok P w K mg base 5 A.f_answer_packet_call ["operation", "numbers", "row"] (sp_answer_packet_call K A) :=
  T.f_answer_packet_call.ok sc_answer_packet_call (len_answer_packet_call) (fun cdv Ar outer s H vs Q E hr h => ⟨t_answer_packet_call K A,
 pss_cons (ps_if (pt_cmpR (op_eq) (pv 0) (pe_int) (nomark _))
 (pss_one (ps_ret (pe_callO (ok_write_packet T) (hr.mono (by decide)) (by rfl) T.f_write_packet.g T.f_write_packet.kp (pa_cons (pe_ix ix_list (pv 1) (pe_int) (fun _ _ => rfl)) (pa_cons (pe_ix ix_list (pv 1) (pe_int) (fun _ _ => rfl)) (pa_cons (pe_ix ix_list (pv 1) (pe_int) (fun _ _ => rfl)) (pa_cons (pe_ix ix_list (pv 1) (pe_int) (fun _ _ => rfl)) (pa_cons (pv 2) (pa_nil)))))))))
 (pss_nil))
 (pss_one (ps_ret (pe_callO (ok_read_packet T) (hr.mono (by decide)) (by rfl) T.f_read_packet.g T.f_read_packet.kp (pa_cons (pv 2) (pa_nil))))),
 pure_answer_packet_call T vs H Q E h⟩)
theorem ok_answer_call (T : Txt K mg A) : Ok P w K mg base 9 A.f_answer_call ["network", "call"] (sp_answer_call K A) :=
  T.f_answer_call.ok sc_answer_call (len_answer_call) (fun cdv Ar outer s H vs Q E hr h => ⟨t_answer_call K A,
 pss_cons (ps_if (pt_cmpR (op_in_seq) (pe_fld (pv 1) rfl) (pe_glob (by rfl) T.g_CHANGES rfl) (by rfl))
 (pss_one (ps_ret (pe_callO (ok_answer_change T) (hr.mono (by decide)) (by rfl) T.f_answer_change.g T.f_answer_change.kp (pa_cons (pv 0) (pa_cons (pe_fld (pv 1) rfl) (pa_cons (pe_fld (pv 1) rfl) (pa_cons (pe_fld (pv 1) rfl) (pa_nil))))))))
 (pss_nil))
 (pss_cons (ps_if (pt_cmpR (op_in_seq) (pe_fld (pv 1) rfl) (pe_glob (by rfl) T.g_PACKET_CALLS rfl) (by rfl))
 (pss_one (ps_ret (pe_callO (ok_answer_packet_call T) (hr.mono (by decide)) (by rfl) T.f_answer_packet_call.g T.f_answer_packet_call.kp (pa_cons (pe_fld (pv 1) rfl) (pa_cons (pe_fld (pv 1) rfl) (pa_cons (pe_fld (pv 1) rfl) (pa_nil)))))))
 (pss_nil))
 (pss_one (ps_ret (pe_callO (ok_answer_look T) (hr.mono (by decide)) (by rfl) T.f_answer_look.g T.f_answer_look.kp (pa_cons (pv 0) (pa_cons (pe_fld (pv 1) rfl) (pa_cons (pe_fld (pv 1) rfl) (pa_nil)))))))),
 pure_answer_call T vs H Q E h⟩)
theorem ok_entry (T : Txt K mg A) {fd : FuncData} (F : Fun K "answers" "answers" s_answers A.f_answers fd) : FnOk P w K mg base CX0 10 A.f_answers fd ["calls"] (sp_answers K A) :=
  F.ok sc_answers (len_answers) (fun cdv Ar outer s H vs Q E hr h => ⟨t_answers K A,
 pss_cons (ps_set (i := 1) sc_answers.nd rfl (by first | exact Or.inl rfl | exact Or.inr rfl) (pe_make0O T.m_Network (ok_Network_init T) (hr.mono (by decide)) (by rfl) T.g_Network))
 (pss_cons (ps_set (i := 2) sc_answers.nd rfl (by first | exact Or.inl rfl | exact Or.inr rfl) (pe_lst (pa_nil)))
 (pss_cons (ps_for PassesOwn.never rfl (pi_list (pe_callO (ok_split_calls T) (hr.mono (by decide)) (by rfl) T.f_split_calls.g T.f_split_calls.kp (pa_cons (pv 0) (pa_nil)))) (pg_name (i := 3) sc_answers.nd rfl (by first | exact Or.inl rfl | exact Or.inr rfl))
 (pss_cons (ps_set (i := 4) sc_answers.nd rfl (by first | exact Or.inl rfl | exact Or.inr rfl) (pe_callO (ok_answer_call T) (hr.mono (by decide)) (by rfl) T.f_answer_call.g T.f_answer_call.kp (pa_cons (pv 1) (pa_cons (pv 3) (pa_nil)))))
 (pss_cons (ps_expr (pe_bm PySem.F.plainAttrs_list PySem.F.slot_list_append PySem.F.type_list_append mt_append (pv 2) (pa_cons (pe_callB call_len_seq (by rfl) T.b_len PySem.boot_len (pa_cons (pv 4) (pa_nil))) (pa_nil))))
 (pss_one (ps_expr (pe_bm PySem.F.plainAttrs_list PySem.F.slot_list_extend PySem.F.type_list_extend mt_extend (pv 2) (pa_cons (pv 4) (pa_nil))))))))
 (pss_one (ps_ret (pv 2))))),
 pure_answers T vs H Q E h⟩)
end
section
variable {K : PySem.W.Frag} {h : Heap} {mg : Str → Option Value}
theorem at_Call_init {C : Addr} {f : Addr} {od an : Option Addr} {sl : Array (Option Value)} {oc kV dc pm cd ct : Value} (a : PySem.W.findIn K (.ref C) "__init__" = some (some (.ref f))) (i : PySem.W.isFn K (.ref f) = true) (l : K.lookup f = some ⟨oc, od, .func (PySem.W.fnOf "__init__" "Call.__init__" (defArgs s_Call_init) (defBody s_Call_init) (defScope s_Call_init) .none kV dc pm an cd ct), sl⟩) (c : PySem.W.codeIn K cd "Call.__init__" = true) (k : PySem.W.keepIn K (.ref f) = true) : MtAt K "Call.__init__" "__init__" s_Call_init C f ["self", "operation", "numbers", "row"] :=
  ⟨⟨_, fun_mk (st := s_Call_init) l c k, (fun_mk (st := s_Call_init) l c k).binds fun _ _ _ _ _ _ us hl => match us, hl with | [_, _, _, _], _ => rfl⟩, ⟨a, i, k⟩⟩
theorem at_split_calls (X : K.In h) (G : h.Ns mainGlobals mg) {f : Addr} {od an : Option Addr} {sl : Array (Option Value)} {oc kV dc pm cd ct : Value} (a : PySem.W.nsIn K mainGlobals "split_calls" = some (some (.ref f))) (l : K.lookup f = some ⟨oc, od, .func (PySem.W.fnOf "split_calls" "split_calls" (defArgs s_split_calls) (defBody s_split_calls) (defScope s_split_calls) .none kV dc pm an cd ct), sl⟩) (c : PySem.W.codeIn K cd "split_calls" = true) (k : PySem.W.keepIn K (.ref f) = true) : FnAt K mg "split_calls" s_split_calls f ["calls"] :=
  ⟨⟨_, fun_mk (st := s_split_calls) l c k, (fun_mk (st := s_split_calls) l c k).binds fun _ _ _ _ _ _ us hl => match us, hl with | [_], _ => rfl⟩, PySem.W.mg_of X G a, k⟩
theorem at_SiteCopy_init {C : Addr} {f : Addr} {od an : Option Addr} {sl : Array (Option Value)} {oc kV dc pm cd ct : Value} (a : PySem.W.findIn K (.ref C) "__init__" = some (some (.ref f))) (i : PySem.W.isFn K (.ref f) = true) (l : K.lookup f = some ⟨oc, od, .func (PySem.W.fnOf "__init__" "SiteCopy.__init__" (defArgs s_SiteCopy_init) (defBody s_SiteCopy_init) (defScope s_SiteCopy_init) .none kV dc pm an cd ct), sl⟩) (c : PySem.W.codeIn K cd "SiteCopy.__init__" = true) (k : PySem.W.keepIn K (.ref f) = true) : MtAt K "SiteCopy.__init__" "__init__" s_SiteCopy_init C f ["self", "site_count"] :=
  ⟨⟨_, fun_mk (st := s_SiteCopy_init) l c k, (fun_mk (st := s_SiteCopy_init) l c k).binds fun _ _ _ _ _ _ us hl => match us, hl with | [_, _], _ => rfl⟩, ⟨a, i, k⟩⟩
theorem at_SiteCopy_sent_count {C : Addr} {f : Addr} {od an : Option Addr} {sl : Array (Option Value)} {oc kV dc pm cd ct : Value} (a : PySem.W.findIn K (.ref C) "sent_count" = some (some (.ref f))) (i : PySem.W.isFn K (.ref f) = true) (l : K.lookup f = some ⟨oc, od, .func (PySem.W.fnOf "sent_count" "SiteCopy.sent_count" (defArgs s_SiteCopy_sent_count) (defBody s_SiteCopy_sent_count) (defScope s_SiteCopy_sent_count) .none kV dc pm an cd ct), sl⟩) (c : PySem.W.codeIn K cd "SiteCopy.sent_count" = true) (k : PySem.W.keepIn K (.ref f) = true) : MtAt K "SiteCopy.sent_count" "sent_count" s_SiteCopy_sent_count C f ["self"] :=
  ⟨⟨_, fun_mk (st := s_SiteCopy_sent_count) l c k, (fun_mk (st := s_SiteCopy_sent_count) l c k).binds fun _ _ _ _ _ _ us hl => match us, hl with | [_], _ => rfl⟩, ⟨a, i, k⟩⟩
theorem at_SiteCopy_received_count {C : Addr} {f : Addr} {od an : Option Addr} {sl : Array (Option Value)} {oc kV dc pm cd ct : Value} (a : PySem.W.findIn K (.ref C) "received_count" = some (some (.ref f))) (i : PySem.W.isFn K (.ref f) = true) (l : K.lookup f = some ⟨oc, od, .func (PySem.W.fnOf "received_count" "SiteCopy.received_count" (defArgs s_SiteCopy_received_count) (defBody s_SiteCopy_received_count) (defScope s_SiteCopy_received_count) .none kV dc pm an cd ct), sl⟩) (c : PySem.W.codeIn K cd "SiteCopy.received_count" = true) (k : PySem.W.keepIn K (.ref f) = true) : MtAt K "SiteCopy.received_count" "received_count" s_SiteCopy_received_count C f ["self"] :=
  ⟨⟨_, fun_mk (st := s_SiteCopy_received_count) l c k, (fun_mk (st := s_SiteCopy_received_count) l c k).binds fun _ _ _ _ _ _ us hl => match us, hl with | [_], _ => rfl⟩, ⟨a, i, k⟩⟩
theorem at_SiteCopy_acknowledged_sum {C : Addr} {f : Addr} {od an : Option Addr} {sl : Array (Option Value)} {oc kV dc pm cd ct : Value} (a : PySem.W.findIn K (.ref C) "acknowledged_sum" = some (some (.ref f))) (i : PySem.W.isFn K (.ref f) = true) (l : K.lookup f = some ⟨oc, od, .func (PySem.W.fnOf "acknowledged_sum" "SiteCopy.acknowledged_sum" (defArgs s_SiteCopy_acknowledged_sum) (defBody s_SiteCopy_acknowledged_sum) (defScope s_SiteCopy_acknowledged_sum) .none kV dc pm an cd ct), sl⟩) (c : PySem.W.codeIn K cd "SiteCopy.acknowledged_sum" = true) (k : PySem.W.keepIn K (.ref f) = true) : MtAt K "SiteCopy.acknowledged_sum" "acknowledged_sum" s_SiteCopy_acknowledged_sum C f ["self"] :=
  ⟨⟨_, fun_mk (st := s_SiteCopy_acknowledged_sum) l c k, (fun_mk (st := s_SiteCopy_acknowledged_sum) l c k).binds fun _ _ _ _ _ _ us hl => match us, hl with | [_], _ => rfl⟩, ⟨a, i, k⟩⟩
theorem at_SiteCopy_copied {C : Addr} {f : Addr} {od an : Option Addr} {sl : Array (Option Value)} {oc kV dc pm cd ct : Value} (a : PySem.W.findIn K (.ref C) "copied" = some (some (.ref f))) (i : PySem.W.isFn K (.ref f) = true) (l : K.lookup f = some ⟨oc, od, .func (PySem.W.fnOf "copied" "SiteCopy.copied" (defArgs s_SiteCopy_copied) (defBody s_SiteCopy_copied) (defScope s_SiteCopy_copied) .none kV dc pm an cd ct), sl⟩) (c : PySem.W.codeIn K cd "SiteCopy.copied" = true) (k : PySem.W.keepIn K (.ref f) = true) : MtAt K "SiteCopy.copied" "copied" s_SiteCopy_copied C f ["self"] :=
  ⟨⟨_, fun_mk (st := s_SiteCopy_copied) l c k, (fun_mk (st := s_SiteCopy_copied) l c k).binds fun _ _ _ _ _ _ us hl => match us, hl with | [_], _ => rfl⟩, ⟨a, i, k⟩⟩
theorem at_SiteCopy_equals {C : Addr} {f : Addr} {od an : Option Addr} {sl : Array (Option Value)} {oc kV dc pm cd ct : Value} (a : PySem.W.findIn K (.ref C) "equals" = some (some (.ref f))) (i : PySem.W.isFn K (.ref f) = true) (l : K.lookup f = some ⟨oc, od, .func (PySem.W.fnOf "equals" "SiteCopy.equals" (defArgs s_SiteCopy_equals) (defBody s_SiteCopy_equals) (defScope s_SiteCopy_equals) .none kV dc pm an cd ct), sl⟩) (c : PySem.W.codeIn K cd "SiteCopy.equals" = true) (k : PySem.W.keepIn K (.ref f) = true) : MtAt K "SiteCopy.equals" "equals" s_SiteCopy_equals C f ["self", "other"] :=
  ⟨⟨_, fun_mk (st := s_SiteCopy_equals) l c k, (fun_mk (st := s_SiteCopy_equals) l c k).binds fun _ _ _ _ _ _ us hl => match us, hl with | [_, _], _ => rfl⟩, ⟨a, i, k⟩⟩
theorem at_Site_init {C : Addr} {f : Addr} {od an : Option Addr} {sl : Array (Option Value)} {oc kV dc pm cd ct : Value} (a : PySem.W.findIn K (.ref C) "__init__" = some (some (.ref f))) (i : PySem.W.isFn K (.ref f) = true) (l : K.lookup f = some ⟨oc, od, .func (PySem.W.fnOf "__init__" "Site.__init__" (defArgs s_Site_init) (defBody s_Site_init) (defScope s_Site_init) .none kV dc pm an cd ct), sl⟩) (c : PySem.W.codeIn K cd "Site.__init__" = true) (k : PySem.W.keepIn K (.ref f) = true) : MtAt K "Site.__init__" "__init__" s_Site_init C f ["self", "site_count"] :=
  ⟨⟨_, fun_mk (st := s_Site_init) l c k, (fun_mk (st := s_Site_init) l c k).binds fun _ _ _ _ _ _ us hl => match us, hl with | [_, _], _ => rfl⟩, ⟨a, i, k⟩⟩
theorem at_Site_at_risk {C : Addr} {f : Addr} {od an : Option Addr} {sl : Array (Option Value)} {oc kV dc pm cd ct : Value} (a : PySem.W.findIn K (.ref C) "at_risk" = some (some (.ref f))) (i : PySem.W.isFn K (.ref f) = true) (l : K.lookup f = some ⟨oc, od, .func (PySem.W.fnOf "at_risk" "Site.at_risk" (defArgs s_Site_at_risk) (defBody s_Site_at_risk) (defScope s_Site_at_risk) .none kV dc pm an cd ct), sl⟩) (c : PySem.W.codeIn K cd "Site.at_risk" = true) (k : PySem.W.keepIn K (.ref f) = true) : MtAt K "Site.at_risk" "at_risk" s_Site_at_risk C f ["self"] :=
  ⟨⟨_, fun_mk (st := s_Site_at_risk) l c k, (fun_mk (st := s_Site_at_risk) l c k).binds fun _ _ _ _ _ _ us hl => match us, hl with | [_], _ => rfl⟩, ⟨a, i, k⟩⟩
theorem at_Site_sync {C : Addr} {f : Addr} {od an : Option Addr} {sl : Array (Option Value)} {oc kV dc pm cd ct : Value} (a : PySem.W.findIn K (.ref C) "sync" = some (some (.ref f))) (i : PySem.W.isFn K (.ref f) = true) (l : K.lookup f = some ⟨oc, od, .func (PySem.W.fnOf "sync" "Site.sync" (defArgs s_Site_sync) (defBody s_Site_sync) (defScope s_Site_sync) .none kV dc pm an cd ct), sl⟩) (c : PySem.W.codeIn K cd "Site.sync" = true) (k : PySem.W.keepIn K (.ref f) = true) : MtAt K "Site.sync" "sync" s_Site_sync C f ["self"] :=
  ⟨⟨_, fun_mk (st := s_Site_sync) l c k, (fun_mk (st := s_Site_sync) l c k).binds fun _ _ _ _ _ _ us hl => match us, hl with | [_], _ => rfl⟩, ⟨a, i, k⟩⟩
theorem at_Site_crash {C : Addr} {f : Addr} {od an : Option Addr} {sl : Array (Option Value)} {oc kV dc pm cd ct : Value} (a : PySem.W.findIn K (.ref C) "crash" = some (some (.ref f))) (i : PySem.W.isFn K (.ref f) = true) (l : K.lookup f = some ⟨oc, od, .func (PySem.W.fnOf "crash" "Site.crash" (defArgs s_Site_crash) (defBody s_Site_crash) (defScope s_Site_crash) .none kV dc pm an cd ct), sl⟩) (c : PySem.W.codeIn K cd "Site.crash" = true) (k : PySem.W.keepIn K (.ref f) = true) : MtAt K "Site.crash" "crash" s_Site_crash C f ["self"] :=
  ⟨⟨_, fun_mk (st := s_Site_crash) l c k, (fun_mk (st := s_Site_crash) l c k).binds fun _ _ _ _ _ _ us hl => match us, hl with | [_], _ => rfl⟩, ⟨a, i, k⟩⟩
theorem at_WirePacket_init {C : Addr} {f : Addr} {od an : Option Addr} {sl : Array (Option Value)} {oc kV dc pm cd ct : Value} (a : PySem.W.findIn K (.ref C) "__init__" = some (some (.ref f))) (i : PySem.W.isFn K (.ref f) = true) (l : K.lookup f = some ⟨oc, od, .func (PySem.W.fnOf "__init__" "WirePacket.__init__" (defArgs s_WirePacket_init) (defBody s_WirePacket_init) (defScope s_WirePacket_init) .none kV dc pm an cd ct), sl⟩) (c : PySem.W.codeIn K cd "WirePacket.__init__" = true) (k : PySem.W.keepIn K (.ref f) = true) : MtAt K "WirePacket.__init__" "__init__" s_WirePacket_init C f ["self", "octets", "damaged"] :=
  ⟨⟨_, fun_mk (st := s_WirePacket_init) l c k, (fun_mk (st := s_WirePacket_init) l c k).binds fun _ _ _ _ _ _ us hl => match us, hl with | [_, _, _], _ => rfl⟩, ⟨a, i, k⟩⟩
theorem at_WirePacket_twin {C : Addr} {f : Addr} {od an : Option Addr} {sl : Array (Option Value)} {oc kV dc pm cd ct : Value} (a : PySem.W.findIn K (.ref C) "twin" = some (some (.ref f))) (i : PySem.W.isFn K (.ref f) = true) (l : K.lookup f = some ⟨oc, od, .func (PySem.W.fnOf "twin" "WirePacket.twin" (defArgs s_WirePacket_twin) (defBody s_WirePacket_twin) (defScope s_WirePacket_twin) .none kV dc pm an cd ct), sl⟩) (c : PySem.W.codeIn K cd "WirePacket.twin" = true) (k : PySem.W.keepIn K (.ref f) = true) : MtAt K "WirePacket.twin" "twin" s_WirePacket_twin C f ["self"] :=
  ⟨⟨_, fun_mk (st := s_WirePacket_twin) l c k, (fun_mk (st := s_WirePacket_twin) l c k).binds fun _ _ _ _ _ _ us hl => match us, hl with | [_], _ => rfl⟩, ⟨a, i, k⟩⟩
theorem at_Network_init {C : Addr} {f : Addr} {od an : Option Addr} {sl : Array (Option Value)} {oc kV dc pm cd ct : Value} (a : PySem.W.findIn K (.ref C) "__init__" = some (some (.ref f))) (i : PySem.W.isFn K (.ref f) = true) (l : K.lookup f = some ⟨oc, od, .func (PySem.W.fnOf "__init__" "Network.__init__" (defArgs s_Network_init) (defBody s_Network_init) (defScope s_Network_init) .none kV dc pm an cd ct), sl⟩) (c : PySem.W.codeIn K cd "Network.__init__" = true) (k : PySem.W.keepIn K (.ref f) = true) : MtAt K "Network.__init__" "__init__" s_Network_init C f ["self"] :=
  ⟨⟨_, fun_mk (st := s_Network_init) l c k, (fun_mk (st := s_Network_init) l c k).binds fun _ _ _ _ _ _ us hl => match us, hl with | [_], _ => rfl⟩, ⟨a, i, k⟩⟩
theorem at_Network_site {C : Addr} {f : Addr} {od an : Option Addr} {sl : Array (Option Value)} {oc kV dc pm cd ct : Value} (a : PySem.W.findIn K (.ref C) "site" = some (some (.ref f))) (i : PySem.W.isFn K (.ref f) = true) (l : K.lookup f = some ⟨oc, od, .func (PySem.W.fnOf "site" "Network.site" (defArgs s_Network_site) (defBody s_Network_site) (defScope s_Network_site) .none kV dc pm an cd ct), sl⟩) (c : PySem.W.codeIn K cd "Network.site" = true) (k : PySem.W.keepIn K (.ref f) = true) : MtAt K "Network.site" "site" s_Network_site C f ["self", "number"] :=
  ⟨⟨_, fun_mk (st := s_Network_site) l c k, (fun_mk (st := s_Network_site) l c k).binds fun _ _ _ _ _ _ us hl => match us, hl with | [_, _], _ => rfl⟩, ⟨a, i, k⟩⟩
theorem at_Network_add_sites {C : Addr} {f : Addr} {od an : Option Addr} {sl : Array (Option Value)} {oc kV dc pm cd ct : Value} (a : PySem.W.findIn K (.ref C) "add_sites" = some (some (.ref f))) (i : PySem.W.isFn K (.ref f) = true) (l : K.lookup f = some ⟨oc, od, .func (PySem.W.fnOf "add_sites" "Network.add_sites" (defArgs s_Network_add_sites) (defBody s_Network_add_sites) (defScope s_Network_add_sites) .none kV dc pm an cd ct), sl⟩) (c : PySem.W.codeIn K cd "Network.add_sites" = true) (k : PySem.W.keepIn K (.ref f) = true) : MtAt K "Network.add_sites" "add_sites" s_Network_add_sites C f ["self", "count"] :=
  ⟨⟨_, fun_mk (st := s_Network_add_sites) l c k, (fun_mk (st := s_Network_add_sites) l c k).binds fun _ _ _ _ _ _ us hl => match us, hl with | [_, _], _ => rfl⟩, ⟨a, i, k⟩⟩
theorem at_Network_pairs {C : Addr} {f : Addr} {od an : Option Addr} {sl : Array (Option Value)} {oc kV dc pm cd ct : Value} (a : PySem.W.findIn K (.ref C) "pairs" = some (some (.ref f))) (i : PySem.W.isFn K (.ref f) = true) (l : K.lookup f = some ⟨oc, od, .func (PySem.W.fnOf "pairs" "Network.pairs" (defArgs s_Network_pairs) (defBody s_Network_pairs) (defScope s_Network_pairs) .none kV dc pm an cd ct), sl⟩) (c : PySem.W.codeIn K cd "Network.pairs" = true) (k : PySem.W.keepIn K (.ref f) = true) : MtAt K "Network.pairs" "pairs" s_Network_pairs C f ["self"] :=
  ⟨⟨_, fun_mk (st := s_Network_pairs) l c k, (fun_mk (st := s_Network_pairs) l c k).binds fun _ _ _ _ _ _ us hl => match us, hl with | [_], _ => rfl⟩, ⟨a, i, k⟩⟩
theorem at_is_site_number (X : K.In h) (G : h.Ns mainGlobals mg) {f : Addr} {od an : Option Addr} {sl : Array (Option Value)} {oc kV dc pm cd ct : Value} (a : PySem.W.nsIn K mainGlobals "is_site_number" = some (some (.ref f))) (l : K.lookup f = some ⟨oc, od, .func (PySem.W.fnOf "is_site_number" "is_site_number" (defArgs s_is_site_number) (defBody s_is_site_number) (defScope s_is_site_number) .none kV dc pm an cd ct), sl⟩) (c : PySem.W.codeIn K cd "is_site_number" = true) (k : PySem.W.keepIn K (.ref f) = true) : FnAt K mg "is_site_number" s_is_site_number f ["number"] :=
  ⟨⟨_, fun_mk (st := s_is_site_number) l c k, (fun_mk (st := s_is_site_number) l c k).binds fun _ _ _ _ _ _ us hl => match us, hl with | [_], _ => rfl⟩, PySem.W.mg_of X G a, k⟩
theorem at_is_octet (X : K.In h) (G : h.Ns mainGlobals mg) {f : Addr} {od an : Option Addr} {sl : Array (Option Value)} {oc kV dc pm cd ct : Value} (a : PySem.W.nsIn K mainGlobals "is_octet" = some (some (.ref f))) (l : K.lookup f = some ⟨oc, od, .func (PySem.W.fnOf "is_octet" "is_octet" (defArgs s_is_octet) (defBody s_is_octet) (defScope s_is_octet) .none kV dc pm an cd ct), sl⟩) (c : PySem.W.codeIn K cd "is_octet" = true) (k : PySem.W.keepIn K (.ref f) = true) : FnAt K mg "is_octet" s_is_octet f ["value"] :=
  ⟨⟨_, fun_mk (st := s_is_octet) l c k, (fun_mk (st := s_is_octet) l c k).binds fun _ _ _ _ _ _ us hl => match us, hl with | [_], _ => rfl⟩, PySem.W.mg_of X G a, k⟩
theorem at_is_payload (X : K.In h) (G : h.Ns mainGlobals mg) {f : Addr} {od an : Option Addr} {sl : Array (Option Value)} {oc kV dc pm cd ct : Value} (a : PySem.W.nsIn K mainGlobals "is_payload" = some (some (.ref f))) (l : K.lookup f = some ⟨oc, od, .func (PySem.W.fnOf "is_payload" "is_payload" (defArgs s_is_payload) (defBody s_is_payload) (defScope s_is_payload) .none kV dc pm an cd ct), sl⟩) (c : PySem.W.codeIn K cd "is_payload" = true) (k : PySem.W.keepIn K (.ref f) = true) : FnAt K mg "is_payload" s_is_payload f ["row"] :=
  ⟨⟨_, fun_mk (st := s_is_payload) l c k, (fun_mk (st := s_is_payload) l c k).binds fun _ _ _ _ _ _ us hl => match us, hl with | [_], _ => rfl⟩, PySem.W.mg_of X G a, k⟩
theorem at_is_copy_number (X : K.In h) (G : h.Ns mainGlobals mg) {f : Addr} {od an : Option Addr} {sl : Array (Option Value)} {oc kV dc pm cd ct : Value} (a : PySem.W.nsIn K mainGlobals "is_copy_number" = some (some (.ref f))) (l : K.lookup f = some ⟨oc, od, .func (PySem.W.fnOf "is_copy_number" "is_copy_number" (defArgs s_is_copy_number) (defBody s_is_copy_number) (defScope s_is_copy_number) .none kV dc pm an cd ct), sl⟩) (c : PySem.W.codeIn K cd "is_copy_number" = true) (k : PySem.W.keepIn K (.ref f) = true) : FnAt K mg "is_copy_number" s_is_copy_number f ["number"] :=
  ⟨⟨_, fun_mk (st := s_is_copy_number) l c k, (fun_mk (st := s_is_copy_number) l c k).binds fun _ _ _ _ _ _ us hl => match us, hl with | [_], _ => rfl⟩, PySem.W.mg_of X G a, k⟩
theorem at_is_message_number (X : K.In h) (G : h.Ns mainGlobals mg) {f : Addr} {od an : Option Addr} {sl : Array (Option Value)} {oc kV dc pm cd ct : Value} (a : PySem.W.nsIn K mainGlobals "is_message_number" = some (some (.ref f))) (l : K.lookup f = some ⟨oc, od, .func (PySem.W.fnOf "is_message_number" "is_message_number" (defArgs s_is_message_number) (defBody s_is_message_number) (defScope s_is_message_number) .none kV dc pm an cd ct), sl⟩) (c : PySem.W.codeIn K cd "is_message_number" = true) (k : PySem.W.keepIn K (.ref f) = true) : FnAt K mg "is_message_number" s_is_message_number f ["number"] :=
  ⟨⟨_, fun_mk (st := s_is_message_number) l c k, (fun_mk (st := s_is_message_number) l c k).binds fun _ _ _ _ _ _ us hl => match us, hl with | [_], _ => rfl⟩, PySem.W.mg_of X G a, k⟩
theorem at_is_message_count (X : K.In h) (G : h.Ns mainGlobals mg) {f : Addr} {od an : Option Addr} {sl : Array (Option Value)} {oc kV dc pm cd ct : Value} (a : PySem.W.nsIn K mainGlobals "is_message_count" = some (some (.ref f))) (l : K.lookup f = some ⟨oc, od, .func (PySem.W.fnOf "is_message_count" "is_message_count" (defArgs s_is_message_count) (defBody s_is_message_count) (defScope s_is_message_count) .none kV dc pm an cd ct), sl⟩) (c : PySem.W.codeIn K cd "is_message_count" = true) (k : PySem.W.keepIn K (.ref f) = true) : FnAt K mg "is_message_count" s_is_message_count f ["count"] :=
  ⟨⟨_, fun_mk (st := s_is_message_count) l c k, (fun_mk (st := s_is_message_count) l c k).binds fun _ _ _ _ _ _ us hl => match us, hl with | [_], _ => rfl⟩, PySem.W.mg_of X G a, k⟩
theorem at_Packet_init {C : Addr} {f : Addr} {od an : Option Addr} {sl : Array (Option Value)} {oc kV dc pm cd ct : Value} (a : PySem.W.findIn K (.ref C) "__init__" = some (some (.ref f))) (i : PySem.W.isFn K (.ref f) = true) (l : K.lookup f = some ⟨oc, od, .func (PySem.W.fnOf "__init__" "Packet.__init__" (defArgs s_Packet_init) (defBody s_Packet_init) (defScope s_Packet_init) .none kV dc pm an cd ct), sl⟩) (c : PySem.W.codeIn K cd "Packet.__init__" = true) (k : PySem.W.keepIn K (.ref f) = true) : MtAt K "Packet.__init__" "__init__" s_Packet_init C f ["self", "kind", "sender", "receiver", "number", "payload"] :=
  ⟨⟨_, fun_mk (st := s_Packet_init) l c k, (fun_mk (st := s_Packet_init) l c k).binds fun _ _ _ _ _ _ us hl => match us, hl with | [_, _, _, _, _, _], _ => rfl⟩, ⟨a, i, k⟩⟩
theorem at_checksum_of (X : K.In h) (G : h.Ns mainGlobals mg) {f : Addr} {od an : Option Addr} {sl : Array (Option Value)} {oc kV dc pm cd ct : Value} (a : PySem.W.nsIn K mainGlobals "checksum_of" = some (some (.ref f))) (l : K.lookup f = some ⟨oc, od, .func (PySem.W.fnOf "checksum_of" "checksum_of" (defArgs s_checksum_of) (defBody s_checksum_of) (defScope s_checksum_of) .none kV dc pm an cd ct), sl⟩) (c : PySem.W.codeIn K cd "checksum_of" = true) (k : PySem.W.keepIn K (.ref f) = true) : FnAt K mg "checksum_of" s_checksum_of f ["octets"] :=
  ⟨⟨_, fun_mk (st := s_checksum_of) l c k, (fun_mk (st := s_checksum_of) l c k).binds fun _ _ _ _ _ _ us hl => match us, hl with | [_], _ => rfl⟩, PySem.W.mg_of X G a, k⟩
theorem at_octets_of (X : K.In h) (G : h.Ns mainGlobals mg) {f : Addr} {od an : Option Addr} {sl : Array (Option Value)} {oc kV dc pm cd ct : Value} (a : PySem.W.nsIn K mainGlobals "octets_of" = some (some (.ref f))) (l : K.lookup f = some ⟨oc, od, .func (PySem.W.fnOf "octets_of" "octets_of" (defArgs s_octets_of) (defBody s_octets_of) (defScope s_octets_of) .none kV dc pm an cd ct), sl⟩) (c : PySem.W.codeIn K cd "octets_of" = true) (k : PySem.W.keepIn K (.ref f) = true) : FnAt K mg "octets_of" s_octets_of f ["packet"] :=
  ⟨⟨_, fun_mk (st := s_octets_of) l c k, (fun_mk (st := s_octets_of) l c k).binds fun _ _ _ _ _ _ us hl => match us, hl with | [_], _ => rfl⟩, PySem.W.mg_of X G a, k⟩
theorem at_has_valid_fields (X : K.In h) (G : h.Ns mainGlobals mg) {f : Addr} {od an : Option Addr} {sl : Array (Option Value)} {oc kV dc pm cd ct : Value} (a : PySem.W.nsIn K mainGlobals "has_valid_fields" = some (some (.ref f))) (l : K.lookup f = some ⟨oc, od, .func (PySem.W.fnOf "has_valid_fields" "has_valid_fields" (defArgs s_has_valid_fields) (defBody s_has_valid_fields) (defScope s_has_valid_fields) .none kV dc pm an cd ct), sl⟩) (c : PySem.W.codeIn K cd "has_valid_fields" = true) (k : PySem.W.keepIn K (.ref f) = true) : FnAt K mg "has_valid_fields" s_has_valid_fields f ["packet"] :=
  ⟨⟨_, fun_mk (st := s_has_valid_fields) l c k, (fun_mk (st := s_has_valid_fields) l c k).binds fun _ _ _ _ _ _ us hl => match us, hl with | [_], _ => rfl⟩, PySem.W.mg_of X G a, k⟩
theorem at_packet_of (X : K.In h) (G : h.Ns mainGlobals mg) {f : Addr} {od an : Option Addr} {sl : Array (Option Value)} {oc kV dc pm cd ct : Value} (a : PySem.W.nsIn K mainGlobals "packet_of" = some (some (.ref f))) (l : K.lookup f = some ⟨oc, od, .func (PySem.W.fnOf "packet_of" "packet_of" (defArgs s_packet_of) (defBody s_packet_of) (defScope s_packet_of) .none kV dc pm an cd ct), sl⟩) (c : PySem.W.codeIn K cd "packet_of" = true) (k : PySem.W.keepIn K (.ref f) = true) : FnAt K mg "packet_of" s_packet_of f ["octets"] :=
  ⟨⟨_, fun_mk (st := s_packet_of) l c k, (fun_mk (st := s_packet_of) l c k).binds fun _ _ _ _ _ _ us hl => match us, hl with | [_], _ => rfl⟩, PySem.W.mg_of X G a, k⟩
theorem at_put_on_wires (X : K.In h) (G : h.Ns mainGlobals mg) {f : Addr} {od an : Option Addr} {sl : Array (Option Value)} {oc kV dc pm cd ct : Value} (a : PySem.W.nsIn K mainGlobals "put_on_wires" = some (some (.ref f))) (l : K.lookup f = some ⟨oc, od, .func (PySem.W.fnOf "put_on_wires" "put_on_wires" (defArgs s_put_on_wires) (defBody s_put_on_wires) (defScope s_put_on_wires) .none kV dc pm an cd ct), sl⟩) (c : PySem.W.codeIn K cd "put_on_wires" = true) (k : PySem.W.keepIn K (.ref f) = true) : FnAt K mg "put_on_wires" s_put_on_wires f ["network", "packet"] :=
  ⟨⟨_, fun_mk (st := s_put_on_wires) l c k, (fun_mk (st := s_put_on_wires) l c k).binds fun _ _ _ _ _ _ us hl => match us, hl with | [_, _], _ => rfl⟩, PySem.W.mg_of X G a, k⟩
theorem at_transmit_durable (X : K.In h) (G : h.Ns mainGlobals mg) {f : Addr} {od an : Option Addr} {sl : Array (Option Value)} {oc kV dc pm cd ct : Value} (a : PySem.W.nsIn K mainGlobals "transmit_durable" = some (some (.ref f))) (l : K.lookup f = some ⟨oc, od, .func (PySem.W.fnOf "transmit_durable" "transmit_durable" (defArgs s_transmit_durable) (defBody s_transmit_durable) (defScope s_transmit_durable) .none kV dc pm an cd ct), sl⟩) (c : PySem.W.codeIn K cd "transmit_durable" = true) (k : PySem.W.keepIn K (.ref f) = true) : FnAt K mg "transmit_durable" s_transmit_durable f ["network", "sender", "receiver"] :=
  ⟨⟨_, fun_mk (st := s_transmit_durable) l c k, (fun_mk (st := s_transmit_durable) l c k).binds fun _ _ _ _ _ _ us hl => match us, hl with | [_, _, _], _ => rfl⟩, PySem.W.mg_of X G a, k⟩
theorem at_has_message (X : K.In h) (G : h.Ns mainGlobals mg) {f : Addr} {od an : Option Addr} {sl : Array (Option Value)} {oc kV dc pm cd ct : Value} (a : PySem.W.nsIn K mainGlobals "has_message" = some (some (.ref f))) (l : K.lookup f = some ⟨oc, od, .func (PySem.W.fnOf "has_message" "has_message" (defArgs s_has_message) (defBody s_has_message) (defScope s_has_message) .none kV dc pm an cd ct), sl⟩) (c : PySem.W.codeIn K cd "has_message" = true) (k : PySem.W.keepIn K (.ref f) = true) : FnAt K mg "has_message" s_has_message f ["network", "sender", "receiver"] :=
  ⟨⟨_, fun_mk (st := s_has_message) l c k, (fun_mk (st := s_has_message) l c k).binds fun _ _ _ _ _ _ us hl => match us, hl with | [_, _, _], _ => rfl⟩, PySem.W.mg_of X G a, k⟩
theorem at_take_acknowledgement (X : K.In h) (G : h.Ns mainGlobals mg) {f : Addr} {od an : Option Addr} {sl : Array (Option Value)} {oc kV dc pm cd ct : Value} (a : PySem.W.nsIn K mainGlobals "take_acknowledgement" = some (some (.ref f))) (l : K.lookup f = some ⟨oc, od, .func (PySem.W.fnOf "take_acknowledgement" "take_acknowledgement" (defArgs s_take_acknowledgement) (defBody s_take_acknowledgement) (defScope s_take_acknowledgement) .none kV dc pm an cd ct), sl⟩) (c : PySem.W.codeIn K cd "take_acknowledgement" = true) (k : PySem.W.keepIn K (.ref f) = true) : FnAt K mg "take_acknowledgement" s_take_acknowledgement f ["present", "packet"] :=
  ⟨⟨_, fun_mk (st := s_take_acknowledgement) l c k, (fun_mk (st := s_take_acknowledgement) l c k).binds fun _ _ _ _ _ _ us hl => match us, hl with | [_, _], _ => rfl⟩, PySem.W.mg_of X G a, k⟩
theorem at_take_message (X : K.In h) (G : h.Ns mainGlobals mg) {f : Addr} {od an : Option Addr} {sl : Array (Option Value)} {oc kV dc pm cd ct : Value} (a : PySem.W.nsIn K mainGlobals "take_message" = some (some (.ref f))) (l : K.lookup f = some ⟨oc, od, .func (PySem.W.fnOf "take_message" "take_message" (defArgs s_take_message) (defBody s_take_message) (defScope s_take_message) .none kV dc pm an cd ct), sl⟩) (c : PySem.W.codeIn K cd "take_message" = true) (k : PySem.W.keepIn K (.ref f) = true) : FnAt K mg "take_message" s_take_message f ["present", "packet"] :=
  ⟨⟨_, fun_mk (st := s_take_message) l c k, (fun_mk (st := s_take_message) l c k).binds fun _ _ _ _ _ _ us hl => match us, hl with | [_, _], _ => rfl⟩, PySem.W.mg_of X G a, k⟩
theorem at_deliver_packet (X : K.In h) (G : h.Ns mainGlobals mg) {f : Addr} {od an : Option Addr} {sl : Array (Option Value)} {oc kV dc pm cd ct : Value} (a : PySem.W.nsIn K mainGlobals "deliver_packet" = some (some (.ref f))) (l : K.lookup f = some ⟨oc, od, .func (PySem.W.fnOf "deliver_packet" "deliver_packet" (defArgs s_deliver_packet) (defBody s_deliver_packet) (defScope s_deliver_packet) .none kV dc pm an cd ct), sl⟩) (c : PySem.W.codeIn K cd "deliver_packet" = true) (k : PySem.W.keepIn K (.ref f) = true) : FnAt K mg "deliver_packet" s_deliver_packet f ["network", "index"] :=
  ⟨⟨_, fun_mk (st := s_deliver_packet) l c k, (fun_mk (st := s_deliver_packet) l c k).binds fun _ _ _ _ _ _ us hl => match us, hl with | [_, _], _ => rfl⟩, PySem.W.mg_of X G a, k⟩
theorem at_deliver_all (X : K.In h) (G : h.Ns mainGlobals mg) {f : Addr} {od an : Option Addr} {sl : Array (Option Value)} {oc kV dc pm cd ct : Value} (a : PySem.W.nsIn K mainGlobals "deliver_all" = some (some (.ref f))) (l : K.lookup f = some ⟨oc, od, .func (PySem.W.fnOf "deliver_all" "deliver_all" (defArgs s_deliver_all) (defBody s_deliver_all) (defScope s_deliver_all) .none kV dc pm an cd ct), sl⟩) (c : PySem.W.codeIn K cd "deliver_all" = true) (k : PySem.W.keepIn K (.ref f) = true) : FnAt K mg "deliver_all" s_deliver_all f ["network"] :=
  ⟨⟨_, fun_mk (st := s_deliver_all) l c k, (fun_mk (st := s_deliver_all) l c k).binds fun _ _ _ _ _ _ us hl => match us, hl with | [_], _ => rfl⟩, PySem.W.mg_of X G a, k⟩
theorem at_sync_all (X : K.In h) (G : h.Ns mainGlobals mg) {f : Addr} {od an : Option Addr} {sl : Array (Option Value)} {oc kV dc pm cd ct : Value} (a : PySem.W.nsIn K mainGlobals "sync_all" = some (some (.ref f))) (l : K.lookup f = some ⟨oc, od, .func (PySem.W.fnOf "sync_all" "sync_all" (defArgs s_sync_all) (defBody s_sync_all) (defScope s_sync_all) .none kV dc pm an cd ct), sl⟩) (c : PySem.W.codeIn K cd "sync_all" = true) (k : PySem.W.keepIn K (.ref f) = true) : FnAt K mg "sync_all" s_sync_all f ["network"] :=
  ⟨⟨_, fun_mk (st := s_sync_all) l c k, (fun_mk (st := s_sync_all) l c k).binds fun _ _ _ _ _ _ us hl => match us, hl with | [_], _ => rfl⟩, PySem.W.mg_of X G a, k⟩
theorem at_perform_exchange (X : K.In h) (G : h.Ns mainGlobals mg) {f : Addr} {od an : Option Addr} {sl : Array (Option Value)} {oc kV dc pm cd ct : Value} (a : PySem.W.nsIn K mainGlobals "perform_exchange" = some (some (.ref f))) (l : K.lookup f = some ⟨oc, od, .func (PySem.W.fnOf "perform_exchange" "perform_exchange" (defArgs s_perform_exchange) (defBody s_perform_exchange) (defScope s_perform_exchange) .none kV dc pm an cd ct), sl⟩) (c : PySem.W.codeIn K cd "perform_exchange" = true) (k : PySem.W.keepIn K (.ref f) = true) : FnAt K mg "perform_exchange" s_perform_exchange f ["network"] :=
  ⟨⟨_, fun_mk (st := s_perform_exchange) l c k, (fun_mk (st := s_perform_exchange) l c k).binds fun _ _ _ _ _ _ us hl => match us, hl with | [_], _ => rfl⟩, PySem.W.mg_of X G a, k⟩
theorem at_sites_refusal (X : K.In h) (G : h.Ns mainGlobals mg) {f : Addr} {od an : Option Addr} {sl : Array (Option Value)} {oc kV dc pm cd ct : Value} (a : PySem.W.nsIn K mainGlobals "sites_refusal" = some (some (.ref f))) (l : K.lookup f = some ⟨oc, od, .func (PySem.W.fnOf "sites_refusal" "sites_refusal" (defArgs s_sites_refusal) (defBody s_sites_refusal) (defScope s_sites_refusal) .none kV dc pm an cd ct), sl⟩) (c : PySem.W.codeIn K cd "sites_refusal" = true) (k : PySem.W.keepIn K (.ref f) = true) : FnAt K mg "sites_refusal" s_sites_refusal f ["network", "numbers", "others_fit"] :=
  ⟨⟨_, fun_mk (st := s_sites_refusal) l c k, (fun_mk (st := s_sites_refusal) l c k).binds fun _ _ _ _ _ _ us hl => match us, hl with | [_, _, _], _ => rfl⟩, PySem.W.mg_of X G a, k⟩
theorem at_pair_refusal (X : K.In h) (G : h.Ns mainGlobals mg) {f : Addr} {od an : Option Addr} {sl : Array (Option Value)} {oc kV dc pm cd ct : Value} (a : PySem.W.nsIn K mainGlobals "pair_refusal" = some (some (.ref f))) (l : K.lookup f = some ⟨oc, od, .func (PySem.W.fnOf "pair_refusal" "pair_refusal" (defArgs s_pair_refusal) (defBody s_pair_refusal) (defScope s_pair_refusal) .none kV dc pm an cd ct), sl⟩) (c : PySem.W.codeIn K cd "pair_refusal" = true) (k : PySem.W.keepIn K (.ref f) = true) : FnAt K mg "pair_refusal" s_pair_refusal f ["network", "one", "other", "others_fit"] :=
  ⟨⟨_, fun_mk (st := s_pair_refusal) l c k, (fun_mk (st := s_pair_refusal) l c k).binds fun _ _ _ _ _ _ us hl => match us, hl with | [_, _, _, _], _ => rfl⟩, PySem.W.mg_of X G a, k⟩
theorem at_packet_refusal (X : K.In h) (G : h.Ns mainGlobals mg) {f : Addr} {od an : Option Addr} {sl : Array (Option Value)} {oc kV dc pm cd ct : Value} (a : PySem.W.nsIn K mainGlobals "packet_refusal" = some (some (.ref f))) (l : K.lookup f = some ⟨oc, od, .func (PySem.W.fnOf "packet_refusal" "packet_refusal" (defArgs s_packet_refusal) (defBody s_packet_refusal) (defScope s_packet_refusal) .none kV dc pm an cd ct), sl⟩) (c : PySem.W.codeIn K cd "packet_refusal" = true) (k : PySem.W.keepIn K (.ref f) = true) : FnAt K mg "packet_refusal" s_packet_refusal f ["network", "index", "others_fit"] :=
  ⟨⟨_, fun_mk (st := s_packet_refusal) l c k, (fun_mk (st := s_packet_refusal) l c k).binds fun _ _ _ _ _ _ us hl => match us, hl with | [_, _, _], _ => rfl⟩, PySem.W.mg_of X G a, k⟩
theorem at_create_sites (X : K.In h) (G : h.Ns mainGlobals mg) {f : Addr} {od an : Option Addr} {sl : Array (Option Value)} {oc kV dc pm cd ct : Value} (a : PySem.W.nsIn K mainGlobals "create_sites" = some (some (.ref f))) (l : K.lookup f = some ⟨oc, od, .func (PySem.W.fnOf "create_sites" "create_sites" (defArgs s_create_sites) (defBody s_create_sites) (defScope s_create_sites) .none kV dc pm an cd ct), sl⟩) (c : PySem.W.codeIn K cd "create_sites" = true) (k : PySem.W.keepIn K (.ref f) = true) : FnAt K mg "create_sites" s_create_sites f ["network", "count"] :=
  ⟨⟨_, fun_mk (st := s_create_sites) l c k, (fun_mk (st := s_create_sites) l c k).binds fun _ _ _ _ _ _ us hl => match us, hl with | [_, _], _ => rfl⟩, PySem.W.mg_of X G a, k⟩
theorem at_post (X : K.In h) (G : h.Ns mainGlobals mg) {f : Addr} {od an : Option Addr} {sl : Array (Option Value)} {oc kV dc pm cd ct : Value} (a : PySem.W.nsIn K mainGlobals "post" = some (some (.ref f))) (l : K.lookup f = some ⟨oc, od, .func (PySem.W.fnOf "post" "post" (defArgs s_post) (defBody s_post) (defScope s_post) .none kV dc pm an cd ct), sl⟩) (c : PySem.W.codeIn K cd "post" = true) (k : PySem.W.keepIn K (.ref f) = true) : FnAt K mg "post" s_post f ["network", "sender", "receiver", "payload"] :=
  ⟨⟨_, fun_mk (st := s_post) l c k, (fun_mk (st := s_post) l c k).binds fun _ _ _ _ _ _ us hl => match us, hl with | [_, _, _, _], _ => rfl⟩, PySem.W.mg_of X G a, k⟩
theorem at_sync (X : K.In h) (G : h.Ns mainGlobals mg) {f : Addr} {od an : Option Addr} {sl : Array (Option Value)} {oc kV dc pm cd ct : Value} (a : PySem.W.nsIn K mainGlobals "sync" = some (some (.ref f))) (l : K.lookup f = some ⟨oc, od, .func (PySem.W.fnOf "sync" "sync" (defArgs s_sync) (defBody s_sync) (defScope s_sync) .none kV dc pm an cd ct), sl⟩) (c : PySem.W.codeIn K cd "sync" = true) (k : PySem.W.keepIn K (.ref f) = true) : FnAt K mg "sync" s_sync f ["network", "number"] :=
  ⟨⟨_, fun_mk (st := s_sync) l c k, (fun_mk (st := s_sync) l c k).binds fun _ _ _ _ _ _ us hl => match us, hl with | [_, _], _ => rfl⟩, PySem.W.mg_of X G a, k⟩
theorem at_crash (X : K.In h) (G : h.Ns mainGlobals mg) {f : Addr} {od an : Option Addr} {sl : Array (Option Value)} {oc kV dc pm cd ct : Value} (a : PySem.W.nsIn K mainGlobals "crash" = some (some (.ref f))) (l : K.lookup f = some ⟨oc, od, .func (PySem.W.fnOf "crash" "crash" (defArgs s_crash) (defBody s_crash) (defScope s_crash) .none kV dc pm an cd ct), sl⟩) (c : PySem.W.codeIn K cd "crash" = true) (k : PySem.W.keepIn K (.ref f) = true) : FnAt K mg "crash" s_crash f ["network", "number"] :=
  ⟨⟨_, fun_mk (st := s_crash) l c k, (fun_mk (st := s_crash) l c k).binds fun _ _ _ _ _ _ us hl => match us, hl with | [_, _], _ => rfl⟩, PySem.W.mg_of X G a, k⟩
theorem at_at_risk (X : K.In h) (G : h.Ns mainGlobals mg) {f : Addr} {od an : Option Addr} {sl : Array (Option Value)} {oc kV dc pm cd ct : Value} (a : PySem.W.nsIn K mainGlobals "at_risk" = some (some (.ref f))) (l : K.lookup f = some ⟨oc, od, .func (PySem.W.fnOf "at_risk" "at_risk" (defArgs s_at_risk) (defBody s_at_risk) (defScope s_at_risk) .none kV dc pm an cd ct), sl⟩) (c : PySem.W.codeIn K cd "at_risk" = true) (k : PySem.W.keepIn K (.ref f) = true) : FnAt K mg "at_risk" s_at_risk f ["network", "number"] :=
  ⟨⟨_, fun_mk (st := s_at_risk) l c k, (fun_mk (st := s_at_risk) l c k).binds fun _ _ _ _ _ _ us hl => match us, hl with | [_, _], _ => rfl⟩, PySem.W.mg_of X G a, k⟩
theorem at_transmit (X : K.In h) (G : h.Ns mainGlobals mg) {f : Addr} {od an : Option Addr} {sl : Array (Option Value)} {oc kV dc pm cd ct : Value} (a : PySem.W.nsIn K mainGlobals "transmit" = some (some (.ref f))) (l : K.lookup f = some ⟨oc, od, .func (PySem.W.fnOf "transmit" "transmit" (defArgs s_transmit) (defBody s_transmit) (defScope s_transmit) .none kV dc pm an cd ct), sl⟩) (c : PySem.W.codeIn K cd "transmit" = true) (k : PySem.W.keepIn K (.ref f) = true) : FnAt K mg "transmit" s_transmit f ["network", "sender", "receiver"] :=
  ⟨⟨_, fun_mk (st := s_transmit) l c k, (fun_mk (st := s_transmit) l c k).binds fun _ _ _ _ _ _ us hl => match us, hl with | [_, _, _], _ => rfl⟩, PySem.W.mg_of X G a, k⟩
theorem at_deliver (X : K.In h) (G : h.Ns mainGlobals mg) {f : Addr} {od an : Option Addr} {sl : Array (Option Value)} {oc kV dc pm cd ct : Value} (a : PySem.W.nsIn K mainGlobals "deliver" = some (some (.ref f))) (l : K.lookup f = some ⟨oc, od, .func (PySem.W.fnOf "deliver" "deliver" (defArgs s_deliver) (defBody s_deliver) (defScope s_deliver) .none kV dc pm an cd ct), sl⟩) (c : PySem.W.codeIn K cd "deliver" = true) (k : PySem.W.keepIn K (.ref f) = true) : FnAt K mg "deliver" s_deliver f ["network", "index"] :=
  ⟨⟨_, fun_mk (st := s_deliver) l c k, (fun_mk (st := s_deliver) l c k).binds fun _ _ _ _ _ _ us hl => match us, hl with | [_, _], _ => rfl⟩, PySem.W.mg_of X G a, k⟩
theorem at_lose (X : K.In h) (G : h.Ns mainGlobals mg) {f : Addr} {od an : Option Addr} {sl : Array (Option Value)} {oc kV dc pm cd ct : Value} (a : PySem.W.nsIn K mainGlobals "lose" = some (some (.ref f))) (l : K.lookup f = some ⟨oc, od, .func (PySem.W.fnOf "lose" "lose" (defArgs s_lose) (defBody s_lose) (defScope s_lose) .none kV dc pm an cd ct), sl⟩) (c : PySem.W.codeIn K cd "lose" = true) (k : PySem.W.keepIn K (.ref f) = true) : FnAt K mg "lose" s_lose f ["network", "index"] :=
  ⟨⟨_, fun_mk (st := s_lose) l c k, (fun_mk (st := s_lose) l c k).binds fun _ _ _ _ _ _ us hl => match us, hl with | [_, _], _ => rfl⟩, PySem.W.mg_of X G a, k⟩
theorem at_duplicate (X : K.In h) (G : h.Ns mainGlobals mg) {f : Addr} {od an : Option Addr} {sl : Array (Option Value)} {oc kV dc pm cd ct : Value} (a : PySem.W.nsIn K mainGlobals "duplicate" = some (some (.ref f))) (l : K.lookup f = some ⟨oc, od, .func (PySem.W.fnOf "duplicate" "duplicate" (defArgs s_duplicate) (defBody s_duplicate) (defScope s_duplicate) .none kV dc pm an cd ct), sl⟩) (c : PySem.W.codeIn K cd "duplicate" = true) (k : PySem.W.keepIn K (.ref f) = true) : FnAt K mg "duplicate" s_duplicate f ["network", "index"] :=
  ⟨⟨_, fun_mk (st := s_duplicate) l c k, (fun_mk (st := s_duplicate) l c k).binds fun _ _ _ _ _ _ us hl => match us, hl with | [_, _], _ => rfl⟩, PySem.W.mg_of X G a, k⟩
theorem at_damage (X : K.In h) (G : h.Ns mainGlobals mg) {f : Addr} {od an : Option Addr} {sl : Array (Option Value)} {oc kV dc pm cd ct : Value} (a : PySem.W.nsIn K mainGlobals "damage" = some (some (.ref f))) (l : K.lookup f = some ⟨oc, od, .func (PySem.W.fnOf "damage" "damage" (defArgs s_damage) (defBody s_damage) (defScope s_damage) .none kV dc pm an cd ct), sl⟩) (c : PySem.W.codeIn K cd "damage" = true) (k : PySem.W.keepIn K (.ref f) = true) : FnAt K mg "damage" s_damage f ["network", "index", "position", "value"] :=
  ⟨⟨_, fun_mk (st := s_damage) l c k, (fun_mk (st := s_damage) l c k).binds fun _ _ _ _ _ _ us hl => match us, hl with | [_, _, _, _], _ => rfl⟩, PySem.W.mg_of X G a, k⟩
theorem at_exchange (X : K.In h) (G : h.Ns mainGlobals mg) {f : Addr} {od an : Option Addr} {sl : Array (Option Value)} {oc kV dc pm cd ct : Value} (a : PySem.W.nsIn K mainGlobals "exchange" = some (some (.ref f))) (l : K.lookup f = some ⟨oc, od, .func (PySem.W.fnOf "exchange" "exchange" (defArgs s_exchange) (defBody s_exchange) (defScope s_exchange) .none kV dc pm an cd ct), sl⟩) (c : PySem.W.codeIn K cd "exchange" = true) (k : PySem.W.keepIn K (.ref f) = true) : FnAt K mg "exchange" s_exchange f ["network"] :=
  ⟨⟨_, fun_mk (st := s_exchange) l c k, (fun_mk (st := s_exchange) l c k).binds fun _ _ _ _ _ _ us hl => match us, hl with | [_], _ => rfl⟩, PySem.W.mg_of X G a, k⟩
theorem at_answer_change (X : K.In h) (G : h.Ns mainGlobals mg) {f : Addr} {od an : Option Addr} {sl : Array (Option Value)} {oc kV dc pm cd ct : Value} (a : PySem.W.nsIn K mainGlobals "answer_change" = some (some (.ref f))) (l : K.lookup f = some ⟨oc, od, .func (PySem.W.fnOf "answer_change" "answer_change" (defArgs s_answer_change) (defBody s_answer_change) (defScope s_answer_change) .none kV dc pm an cd ct), sl⟩) (c : PySem.W.codeIn K cd "answer_change" = true) (k : PySem.W.keepIn K (.ref f) = true) : FnAt K mg "answer_change" s_answer_change f ["network", "operation", "numbers", "row"] :=
  ⟨⟨_, fun_mk (st := s_answer_change) l c k, (fun_mk (st := s_answer_change) l c k).binds fun _ _ _ _ _ _ us hl => match us, hl with | [_, _, _, _], _ => rfl⟩, PySem.W.mg_of X G a, k⟩
theorem at_received (X : K.In h) (G : h.Ns mainGlobals mg) {f : Addr} {od an : Option Addr} {sl : Array (Option Value)} {oc kV dc pm cd ct : Value} (a : PySem.W.nsIn K mainGlobals "received" = some (some (.ref f))) (l : K.lookup f = some ⟨oc, od, .func (PySem.W.fnOf "received" "received" (defArgs s_received) (defBody s_received) (defScope s_received) .none kV dc pm an cd ct), sl⟩) (c : PySem.W.codeIn K cd "received" = true) (k : PySem.W.keepIn K (.ref f) = true) : FnAt K mg "received" s_received f ["network", "number", "sender", "first", "count"] :=
  ⟨⟨_, fun_mk (st := s_received) l c k, (fun_mk (st := s_received) l c k).binds fun _ _ _ _ _ _ us hl => match us, hl with | [_, _, _, _, _], _ => rfl⟩, PySem.W.mg_of X G a, k⟩
theorem at_link_state (X : K.In h) (G : h.Ns mainGlobals mg) {f : Addr} {od an : Option Addr} {sl : Array (Option Value)} {oc kV dc pm cd ct : Value} (a : PySem.W.nsIn K mainGlobals "link_state" = some (some (.ref f))) (l : K.lookup f = some ⟨oc, od, .func (PySem.W.fnOf "link_state" "link_state" (defArgs s_link_state) (defBody s_link_state) (defScope s_link_state) .none kV dc pm an cd ct), sl⟩) (c : PySem.W.codeIn K cd "link_state" = true) (k : PySem.W.keepIn K (.ref f) = true) : FnAt K mg "link_state" s_link_state f ["network", "number", "other", "copy_number"] :=
  ⟨⟨_, fun_mk (st := s_link_state) l c k, (fun_mk (st := s_link_state) l c k).binds fun _ _ _ _ _ _ us hl => match us, hl with | [_, _, _, _], _ => rfl⟩, PySem.W.mg_of X G a, k⟩
theorem at_unsettled (X : K.In h) (G : h.Ns mainGlobals mg) {f : Addr} {od an : Option Addr} {sl : Array (Option Value)} {oc kV dc pm cd ct : Value} (a : PySem.W.nsIn K mainGlobals "unsettled" = some (some (.ref f))) (l : K.lookup f = some ⟨oc, od, .func (PySem.W.fnOf "unsettled" "unsettled" (defArgs s_unsettled) (defBody s_unsettled) (defScope s_unsettled) .none kV dc pm an cd ct), sl⟩) (c : PySem.W.codeIn K cd "unsettled" = true) (k : PySem.W.keepIn K (.ref f) = true) : FnAt K mg "unsettled" s_unsettled f ["network", "sender", "receiver"] :=
  ⟨⟨_, fun_mk (st := s_unsettled) l c k, (fun_mk (st := s_unsettled) l c k).binds fun _ _ _ _ _ _ us hl => match us, hl with | [_, _, _], _ => rfl⟩, PySem.W.mg_of X G a, k⟩
theorem at_listed_fields (X : K.In h) (G : h.Ns mainGlobals mg) {f : Addr} {od an : Option Addr} {sl : Array (Option Value)} {oc kV dc pm cd ct : Value} (a : PySem.W.nsIn K mainGlobals "listed_fields" = some (some (.ref f))) (l : K.lookup f = some ⟨oc, od, .func (PySem.W.fnOf "listed_fields" "listed_fields" (defArgs s_listed_fields) (defBody s_listed_fields) (defScope s_listed_fields) .none kV dc pm an cd ct), sl⟩) (c : PySem.W.codeIn K cd "listed_fields" = true) (k : PySem.W.keepIn K (.ref f) = true) : FnAt K mg "listed_fields" s_listed_fields f ["packet"] :=
  ⟨⟨_, fun_mk (st := s_listed_fields) l c k, (fun_mk (st := s_listed_fields) l c k).binds fun _ _ _ _ _ _ us hl => match us, hl with | [_], _ => rfl⟩, PySem.W.mg_of X G a, k⟩
theorem at_list_packets (X : K.In h) (G : h.Ns mainGlobals mg) {f : Addr} {od an : Option Addr} {sl : Array (Option Value)} {oc kV dc pm cd ct : Value} (a : PySem.W.nsIn K mainGlobals "list_packets" = some (some (.ref f))) (l : K.lookup f = some ⟨oc, od, .func (PySem.W.fnOf "list_packets" "list_packets" (defArgs s_list_packets) (defBody s_list_packets) (defScope s_list_packets) .none kV dc pm an cd ct), sl⟩) (c : PySem.W.codeIn K cd "list_packets" = true) (k : PySem.W.keepIn K (.ref f) = true) : FnAt K mg "list_packets" s_list_packets f ["network"] :=
  ⟨⟨_, fun_mk (st := s_list_packets) l c k, (fun_mk (st := s_list_packets) l c k).binds fun _ _ _ _ _ _ us hl => match us, hl with | [_], _ => rfl⟩, PySem.W.mg_of X G a, k⟩
theorem at_packet_bytes (X : K.In h) (G : h.Ns mainGlobals mg) {f : Addr} {od an : Option Addr} {sl : Array (Option Value)} {oc kV dc pm cd ct : Value} (a : PySem.W.nsIn K mainGlobals "packet_bytes" = some (some (.ref f))) (l : K.lookup f = some ⟨oc, od, .func (PySem.W.fnOf "packet_bytes" "packet_bytes" (defArgs s_packet_bytes) (defBody s_packet_bytes) (defScope s_packet_bytes) .none kV dc pm an cd ct), sl⟩) (c : PySem.W.codeIn K cd "packet_bytes" = true) (k : PySem.W.keepIn K (.ref f) = true) : FnAt K mg "packet_bytes" s_packet_bytes f ["network", "index"] :=
  ⟨⟨_, fun_mk (st := s_packet_bytes) l c k, (fun_mk (st := s_packet_bytes) l c k).binds fun _ _ _ _ _ _ us hl => match us, hl with | [_, _], _ => rfl⟩, PySem.W.mg_of X G a, k⟩
theorem at_all_arrived (X : K.In h) (G : h.Ns mainGlobals mg) {f : Addr} {od an : Option Addr} {sl : Array (Option Value)} {oc kV dc pm cd ct : Value} (a : PySem.W.nsIn K mainGlobals "all_arrived" = some (some (.ref f))) (l : K.lookup f = some ⟨oc, od, .func (PySem.W.fnOf "all_arrived" "all_arrived" (defArgs s_all_arrived) (defBody s_all_arrived) (defScope s_all_arrived) .none kV dc pm an cd ct), sl⟩) (c : PySem.W.codeIn K cd "all_arrived" = true) (k : PySem.W.keepIn K (.ref f) = true) : FnAt K mg "all_arrived" s_all_arrived f ["network"] :=
  ⟨⟨_, fun_mk (st := s_all_arrived) l c k, (fun_mk (st := s_all_arrived) l c k).binds fun _ _ _ _ _ _ us hl => match us, hl with | [_], _ => rfl⟩, PySem.W.mg_of X G a, k⟩
theorem at_all_durable (X : K.In h) (G : h.Ns mainGlobals mg) {f : Addr} {od an : Option Addr} {sl : Array (Option Value)} {oc kV dc pm cd ct : Value} (a : PySem.W.nsIn K mainGlobals "all_durable" = some (some (.ref f))) (l : K.lookup f = some ⟨oc, od, .func (PySem.W.fnOf "all_durable" "all_durable" (defArgs s_all_durable) (defBody s_all_durable) (defScope s_all_durable) .none kV dc pm an cd ct), sl⟩) (c : PySem.W.codeIn K cd "all_durable" = true) (k : PySem.W.keepIn K (.ref f) = true) : FnAt K mg "all_durable" s_all_durable f ["network"] :=
  ⟨⟨_, fun_mk (st := s_all_durable) l c k, (fun_mk (st := s_all_durable) l c k).binds fun _ _ _ _ _ _ us hl => match us, hl with | [_], _ => rfl⟩, PySem.W.mg_of X G a, k⟩
theorem at_is_settled (X : K.In h) (G : h.Ns mainGlobals mg) {f : Addr} {od an : Option Addr} {sl : Array (Option Value)} {oc kV dc pm cd ct : Value} (a : PySem.W.nsIn K mainGlobals "is_settled" = some (some (.ref f))) (l : K.lookup f = some ⟨oc, od, .func (PySem.W.fnOf "is_settled" "is_settled" (defArgs s_is_settled) (defBody s_is_settled) (defScope s_is_settled) .none kV dc pm an cd ct), sl⟩) (c : PySem.W.codeIn K cd "is_settled" = true) (k : PySem.W.keepIn K (.ref f) = true) : FnAt K mg "is_settled" s_is_settled f ["network"] :=
  ⟨⟨_, fun_mk (st := s_is_settled) l c k, (fun_mk (st := s_is_settled) l c k).binds fun _ _ _ _ _ _ us hl => match us, hl with | [_], _ => rfl⟩, PySem.W.mg_of X G a, k⟩
theorem at_totals (X : K.In h) (G : h.Ns mainGlobals mg) {f : Addr} {od an : Option Addr} {sl : Array (Option Value)} {oc kV dc pm cd ct : Value} (a : PySem.W.nsIn K mainGlobals "totals" = some (some (.ref f))) (l : K.lookup f = some ⟨oc, od, .func (PySem.W.fnOf "totals" "totals" (defArgs s_totals) (defBody s_totals) (defScope s_totals) .none kV dc pm an cd ct), sl⟩) (c : PySem.W.codeIn K cd "totals" = true) (k : PySem.W.keepIn K (.ref f) = true) : FnAt K mg "totals" s_totals f ["network"] :=
  ⟨⟨_, fun_mk (st := s_totals) l c k, (fun_mk (st := s_totals) l c k).binds fun _ _ _ _ _ _ us hl => match us, hl with | [_], _ => rfl⟩, PySem.W.mg_of X G a, k⟩
theorem at_answer_look (X : K.In h) (G : h.Ns mainGlobals mg) {f : Addr} {od an : Option Addr} {sl : Array (Option Value)} {oc kV dc pm cd ct : Value} (a : PySem.W.nsIn K mainGlobals "answer_look" = some (some (.ref f))) (l : K.lookup f = some ⟨oc, od, .func (PySem.W.fnOf "answer_look" "answer_look" (defArgs s_answer_look) (defBody s_answer_look) (defScope s_answer_look) .none kV dc pm an cd ct), sl⟩) (c : PySem.W.codeIn K cd "answer_look" = true) (k : PySem.W.keepIn K (.ref f) = true) : FnAt K mg "answer_look" s_answer_look f ["network", "operation", "numbers"] :=
  ⟨⟨_, fun_mk (st := s_answer_look) l c k, (fun_mk (st := s_answer_look) l c k).binds fun _ _ _ _ _ _ us hl => match us, hl with | [_, _, _], _ => rfl⟩, PySem.W.mg_of X G a, k⟩
theorem at_write_packet (X : K.In h) (G : h.Ns mainGlobals mg) {f : Addr} {od an : Option Addr} {sl : Array (Option Value)} {oc kV dc pm cd ct : Value} (a : PySem.W.nsIn K mainGlobals "write_packet" = some (some (.ref f))) (l : K.lookup f = some ⟨oc, od, .func (PySem.W.fnOf "write_packet" "write_packet" (defArgs s_write_packet) (defBody s_write_packet) (defScope s_write_packet) .none kV dc pm an cd ct), sl⟩) (c : PySem.W.codeIn K cd "write_packet" = true) (k : PySem.W.keepIn K (.ref f) = true) : FnAt K mg "write_packet" s_write_packet f ["kind", "sender", "receiver", "number", "payload"] :=
  ⟨⟨_, fun_mk (st := s_write_packet) l c k, (fun_mk (st := s_write_packet) l c k).binds fun _ _ _ _ _ _ us hl => match us, hl with | [_, _, _, _, _], _ => rfl⟩, PySem.W.mg_of X G a, k⟩
theorem at_read_packet (X : K.In h) (G : h.Ns mainGlobals mg) {f : Addr} {od an : Option Addr} {sl : Array (Option Value)} {oc kV dc pm cd ct : Value} (a : PySem.W.nsIn K mainGlobals "read_packet" = some (some (.ref f))) (l : K.lookup f = some ⟨oc, od, .func (PySem.W.fnOf "read_packet" "read_packet" (defArgs s_read_packet) (defBody s_read_packet) (defScope s_read_packet) .none kV dc pm an cd ct), sl⟩) (c : PySem.W.codeIn K cd "read_packet" = true) (k : PySem.W.keepIn K (.ref f) = true) : FnAt K mg "read_packet" s_read_packet f ["octets"] :=
  ⟨⟨_, fun_mk (st := s_read_packet) l c k, (fun_mk (st := s_read_packet) l c k).binds fun _ _ _ _ _ _ us hl => match us, hl with | [_], _ => rfl⟩, PySem.W.mg_of X G a, k⟩
theorem at_answer_packet_call (X : K.In h) (G : h.Ns mainGlobals mg) {f : Addr} {od an : Option Addr} {sl : Array (Option Value)} {oc kV dc pm cd ct : Value} (a : PySem.W.nsIn K mainGlobals "answer_packet_call" = some (some (.ref f))) (l : K.lookup f = some ⟨oc, od, .func (PySem.W.fnOf "answer_packet_call" "answer_packet_call" (defArgs s_answer_packet_call) (defBody s_answer_packet_call) (defScope s_answer_packet_call) .none kV dc pm an cd ct), sl⟩) (c : PySem.W.codeIn K cd "answer_packet_call" = true) (k : PySem.W.keepIn K (.ref f) = true) : FnAt K mg "answer_packet_call" s_answer_packet_call f ["operation", "numbers", "row"] :=
  ⟨⟨_, fun_mk (st := s_answer_packet_call) l c k, (fun_mk (st := s_answer_packet_call) l c k).binds fun _ _ _ _ _ _ us hl => match us, hl with | [_, _, _], _ => rfl⟩, PySem.W.mg_of X G a, k⟩
theorem at_answer_call (X : K.In h) (G : h.Ns mainGlobals mg) {f : Addr} {od an : Option Addr} {sl : Array (Option Value)} {oc kV dc pm cd ct : Value} (a : PySem.W.nsIn K mainGlobals "answer_call" = some (some (.ref f))) (l : K.lookup f = some ⟨oc, od, .func (PySem.W.fnOf "answer_call" "answer_call" (defArgs s_answer_call) (defBody s_answer_call) (defScope s_answer_call) .none kV dc pm an cd ct), sl⟩) (c : PySem.W.codeIn K cd "answer_call" = true) (k : PySem.W.keepIn K (.ref f) = true) : FnAt K mg "answer_call" s_answer_call f ["network", "call"] :=
  ⟨⟨_, fun_mk (st := s_answer_call) l c k, (fun_mk (st := s_answer_call) l c k).binds fun _ _ _ _ _ _ us hl => match us, hl with | [_, _], _ => rfl⟩, PySem.W.mg_of X G a, k⟩
theorem at_answers (X : K.In h) (G : h.Ns mainGlobals mg) {f : Addr} {od an : Option Addr} {sl : Array (Option Value)} {oc kV dc pm cd ct : Value} (a : PySem.W.nsIn K mainGlobals "answers" = some (some (.ref f))) (l : K.lookup f = some ⟨oc, od, .func (PySem.W.fnOf "answers" "answers" (defArgs s_answers) (defBody s_answers) (defScope s_answers) .none kV dc pm an cd ct), sl⟩) (c : PySem.W.codeIn K cd "answers" = true) (k : PySem.W.keepIn K (.ref f) = true) : FnAt K mg "answers" s_answers f ["calls"] :=
  ⟨⟨_, fun_mk (st := s_answers) l c k, (fun_mk (st := s_answers) l c k).binds fun _ _ _ _ _ _ us hl => match us, hl with | [_], _ => rfl⟩, PySem.W.mg_of X G a, k⟩
theorem int_k {x : Str} {i : Int} {t : _} (e : PySem.W.nsIn K mainGlobals x = some (some (.int i t))) : ∃ t, PySem.W.nsIn K mainGlobals x = some (some (.int i t)) := ⟨t, e⟩
theorem tu_NUMBER_COUNTS {a : Addr} {od : Option Addr} {sl : Array (Option Value)} {n : Nat} {t0 t1 t2 t3 t4 t5 t6 t7 t8 t9 t10 t11 t12 t13 t14 t15 t16 t17 t18 t19 : _} (l : K.lookup a = some ⟨.type "tuple", od, .seq #[.int 1 t0, .int 2 t1, .int 1 t2, .int 1 t3, .int 1 t4, .int 2 t5, .int 1 t6, .int 1 t7, .int 1 t8, .int 3 t9, .int 4 t10, .int 3 t11, .int 2 t12, .int 0 t13, .int 1 t14, .int 4 t15, .int 0 t16, .int 0 t17, .int 0 t18, .int 0 t19] n, sl⟩) : ∃ (o : Obj) (its : Array Value) (n : Nat), K.lookup a = some o ∧ o.cls = .type "tuple" ∧ o.data = .seq its n ∧ its.size ≤ sizeLine ∧ Vals [.int 1, .int 2, .int 1, .int 1, .int 1, .int 2, .int 1, .int 1, .int 1, .int 3, .int 4, .int 3, .int 2, .int 0, .int 1, .int 4, .int 0, .int 0, .int 0, .int 0] its.toList :=
  ⟨_, #[.int 1 t0, .int 2 t1, .int 1 t2, .int 1 t3, .int 1 t4, .int 2 t5, .int 1 t6, .int 1 t7, .int 1 t8, .int 3 t9, .int 4 t10, .int 3 t11, .int 2 t12, .int 0 t13, .int 1 t14, .int 4 t15, .int 0 t16, .int 0 t17, .int 0 t18, .int 0 t19], n, l, rfl, rfl, (by show 20 ≤ sizeLine; decide), (show Vals [.int 1, .int 2, .int 1, .int 1, .int 1, .int 2, .int 1, .int 1, .int 1, .int 3, .int 4, .int 3, .int 2, .int 0, .int 1, .int 4, .int 0, .int 0, .int 0, .int 0] [.int 1 t0, .int 2 t1, .int 1 t2, .int 1 t3, .int 1 t4, .int 2 t5, .int 1 t6, .int 1 t7, .int 1 t8, .int 3 t9, .int 4 t10, .int 3 t11, .int 2 t12, .int 0 t13, .int 1 t14, .int 4 t15, .int 0 t16, .int 0 t17, .int 0 t18, .int 0 t19] from (.cons ⟨_, rfl⟩ (.cons ⟨_, rfl⟩ (.cons ⟨_, rfl⟩ (.cons ⟨_, rfl⟩ (.cons ⟨_, rfl⟩ (.cons ⟨_, rfl⟩ (.cons ⟨_, rfl⟩ (.cons ⟨_, rfl⟩ (.cons ⟨_, rfl⟩ (.cons ⟨_, rfl⟩ (.cons ⟨_, rfl⟩ (.cons ⟨_, rfl⟩ (.cons ⟨_, rfl⟩ (.cons ⟨_, rfl⟩ (.cons ⟨_, rfl⟩ (.cons ⟨_, rfl⟩ (.cons ⟨_, rfl⟩ (.cons ⟨_, rfl⟩ (.cons ⟨_, rfl⟩ (.cons ⟨_, rfl⟩ .nil)))))))))))))))))))))⟩
theorem tu_WITH_LIST {a : Addr} {od : Option Addr} {sl : Array (Option Value)} {n : Nat} {t0 t1 t2 : _} (l : K.lookup a = some ⟨.type "tuple", od, .seq #[.int 1 t0, .int 15 t1, .int 16 t2] n, sl⟩) : ∃ (o : Obj) (its : Array Value) (n : Nat), K.lookup a = some o ∧ o.cls = .type "tuple" ∧ o.data = .seq its n ∧ its.size ≤ sizeLine ∧ Vals [.int 1, .int 15, .int 16] its.toList :=
  ⟨_, #[.int 1 t0, .int 15 t1, .int 16 t2], n, l, rfl, rfl, (by show 3 ≤ sizeLine; decide), (show Vals [.int 1, .int 15, .int 16] [.int 1 t0, .int 15 t1, .int 16 t2] from (.cons ⟨_, rfl⟩ (.cons ⟨_, rfl⟩ (.cons ⟨_, rfl⟩ .nil))))⟩
theorem tu_CHANGES {a : Addr} {od : Option Addr} {sl : Array (Option Value)} {n : Nat} {t0 t1 t2 t3 t4 t5 t6 t7 t8 t9 t10 : _} (l : K.lookup a = some ⟨.type "tuple", od, .seq #[.int 0 t0, .int 1 t1, .int 2 t2, .int 3 t3, .int 4 t4, .int 5 t5, .int 6 t6, .int 7 t7, .int 8 t8, .int 9 t9, .int 17 t10] n, sl⟩) : ∃ (o : Obj) (its : Array Value) (n : Nat), K.lookup a = some o ∧ o.cls = .type "tuple" ∧ o.data = .seq its n ∧ its.size ≤ sizeLine ∧ Vals [.int 0, .int 1, .int 2, .int 3, .int 4, .int 5, .int 6, .int 7, .int 8, .int 9, .int 17] its.toList :=
  ⟨_, #[.int 0 t0, .int 1 t1, .int 2 t2, .int 3 t3, .int 4 t4, .int 5 t5, .int 6 t6, .int 7 t7, .int 8 t8, .int 9 t9, .int 17 t10], n, l, rfl, rfl, (by show 11 ≤ sizeLine; decide), (show Vals [.int 0, .int 1, .int 2, .int 3, .int 4, .int 5, .int 6, .int 7, .int 8, .int 9, .int 17] [.int 0 t0, .int 1 t1, .int 2 t2, .int 3 t3, .int 4 t4, .int 5 t5, .int 6 t6, .int 7 t7, .int 8 t8, .int 9 t9, .int 17 t10] from (.cons ⟨_, rfl⟩ (.cons ⟨_, rfl⟩ (.cons ⟨_, rfl⟩ (.cons ⟨_, rfl⟩ (.cons ⟨_, rfl⟩ (.cons ⟨_, rfl⟩ (.cons ⟨_, rfl⟩ (.cons ⟨_, rfl⟩ (.cons ⟨_, rfl⟩ (.cons ⟨_, rfl⟩ (.cons ⟨_, rfl⟩ .nil))))))))))))⟩
theorem tu_PACKET_CALLS {a : Addr} {od : Option Addr} {sl : Array (Option Value)} {n : Nat} {t0 t1 : _} (l : K.lookup a = some ⟨.type "tuple", od, .seq #[.int 15 t0, .int 16 t1] n, sl⟩) : ∃ (o : Obj) (its : Array Value) (n : Nat), K.lookup a = some o ∧ o.cls = .type "tuple" ∧ o.data = .seq its n ∧ its.size ≤ sizeLine ∧ Vals [.int 15, .int 16] its.toList :=
  ⟨_, #[.int 15 t0, .int 16 t1], n, l, rfl, rfl, (by show 2 ≤ sizeLine; decide), (show Vals [.int 15, .int 16] [.int 15 t0, .int 16 t1] from (.cons ⟨_, rfl⟩ (.cons ⟨_, rfl⟩ .nil)))⟩
theorem all_mk {P : Program} {w : World} {fa : Addr} {c_Call c_SiteCopy c_Site c_WirePacket c_Network c_Packet k_NUMBER_COUNTS k_WITH_LIST k_CHANGES k_PACKET_CALLS f_Call_init f_split_calls f_SiteCopy_init f_SiteCopy_sent_count f_SiteCopy_received_count f_SiteCopy_acknowledged_sum f_SiteCopy_copied f_SiteCopy_equals f_Site_init f_Site_at_risk f_Site_sync f_Site_crash f_WirePacket_init f_WirePacket_twin f_Network_init f_Network_site f_Network_add_sites f_Network_pairs f_is_site_number f_is_octet f_is_payload f_is_copy_number f_is_message_number f_is_message_count f_Packet_init f_checksum_of f_octets_of f_has_valid_fields f_packet_of f_put_on_wires f_transmit_durable f_has_message f_take_acknowledgement f_take_message f_deliver_packet f_deliver_all f_sync_all f_perform_exchange f_sites_refusal f_pair_refusal f_packet_refusal f_create_sites f_post f_sync f_crash f_at_risk f_transmit f_deliver f_lose f_duplicate f_damage f_exchange f_answer_change f_received f_link_state f_unsettled f_listed_fields f_list_packets f_packet_bytes f_all_arrived f_all_durable f_is_settled f_totals f_answer_look f_write_packet f_read_packet f_answer_packet_call f_answer_call f_answers : Addr} {od an : Option Addr} {sl : Array (Option Value)} {oc kV dc pm cd ct : Value} (X : K.In h) (G : h.Ns mainGlobals mg) (hfa : mg "answers" = some (.ref fa))
    (g_Call : PySem.W.nsIn K mainGlobals "Call" = some (some (.ref c_Call)))
    (g_SiteCopy : PySem.W.nsIn K mainGlobals "SiteCopy" = some (some (.ref c_SiteCopy)))
    (g_Site : PySem.W.nsIn K mainGlobals "Site" = some (some (.ref c_Site)))
    (g_WirePacket : PySem.W.nsIn K mainGlobals "WirePacket" = some (some (.ref c_WirePacket)))
    (g_Network : PySem.W.nsIn K mainGlobals "Network" = some (some (.ref c_Network)))
    (g_Packet : PySem.W.nsIn K mainGlobals "Packet" = some (some (.ref c_Packet)))
    (f_Call_init' : MtAt K "Call.__init__" "__init__" s_Call_init c_Call f_Call_init ["self", "operation", "numbers", "row"])
    (f_SiteCopy_init' : MtAt K "SiteCopy.__init__" "__init__" s_SiteCopy_init c_SiteCopy f_SiteCopy_init ["self", "site_count"])
    (f_SiteCopy_sent_count' : MtAt K "SiteCopy.sent_count" "sent_count" s_SiteCopy_sent_count c_SiteCopy f_SiteCopy_sent_count ["self"])
    (f_SiteCopy_received_count' : MtAt K "SiteCopy.received_count" "received_count" s_SiteCopy_received_count c_SiteCopy f_SiteCopy_received_count ["self"])
    (f_SiteCopy_acknowledged_sum' : MtAt K "SiteCopy.acknowledged_sum" "acknowledged_sum" s_SiteCopy_acknowledged_sum c_SiteCopy f_SiteCopy_acknowledged_sum ["self"])
    (f_SiteCopy_copied' : MtAt K "SiteCopy.copied" "copied" s_SiteCopy_copied c_SiteCopy f_SiteCopy_copied ["self"])
    (f_SiteCopy_equals' : MtAt K "SiteCopy.equals" "equals" s_SiteCopy_equals c_SiteCopy f_SiteCopy_equals ["self", "other"])
    (f_Site_init' : MtAt K "Site.__init__" "__init__" s_Site_init c_Site f_Site_init ["self", "site_count"])
    (f_Site_at_risk' : MtAt K "Site.at_risk" "at_risk" s_Site_at_risk c_Site f_Site_at_risk ["self"])
    (f_Site_sync' : MtAt K "Site.sync" "sync" s_Site_sync c_Site f_Site_sync ["self"])
    (f_Site_crash' : MtAt K "Site.crash" "crash" s_Site_crash c_Site f_Site_crash ["self"])
    (f_WirePacket_init' : MtAt K "WirePacket.__init__" "__init__" s_WirePacket_init c_WirePacket f_WirePacket_init ["self", "octets", "damaged"])
    (f_WirePacket_twin' : MtAt K "WirePacket.twin" "twin" s_WirePacket_twin c_WirePacket f_WirePacket_twin ["self"])
    (f_Network_init' : MtAt K "Network.__init__" "__init__" s_Network_init c_Network f_Network_init ["self"])
    (f_Network_site' : MtAt K "Network.site" "site" s_Network_site c_Network f_Network_site ["self", "number"])
    (f_Network_add_sites' : MtAt K "Network.add_sites" "add_sites" s_Network_add_sites c_Network f_Network_add_sites ["self", "count"])
    (f_Network_pairs' : MtAt K "Network.pairs" "pairs" s_Network_pairs c_Network f_Network_pairs ["self"])
    (f_Packet_init' : MtAt K "Packet.__init__" "__init__" s_Packet_init c_Packet f_Packet_init ["self", "kind", "sender", "receiver", "number", "payload"])
    (pg_Call : PySem.W.plainGet K c_Call Str.empty = true)
    (hd_Call : PySem.W.hasDictIn K c_Call = true)
    (po_Call : PySem.W.plainOver K c_Call = true)
    (sa_Call : PySem.W.findIn K (.ref c_Call) "__setattr__" = some (some (.builtin "object.__setattr__")))
    (mk_Call : PySem.W.makesIn K c_Call = true)
    (kc_Call : PySem.W.keepIn K (.ref c_Call) = true)
    (n_Call_operation : PySem.W.findIn K (.ref c_Call) "operation" = some none)
    (n_Call_numbers : PySem.W.findIn K (.ref c_Call) "numbers" = some none)
    (n_Call_row : PySem.W.findIn K (.ref c_Call) "row" = some none)
    (pg_SiteCopy : PySem.W.plainGet K c_SiteCopy Str.empty = true)
    (hd_SiteCopy : PySem.W.hasDictIn K c_SiteCopy = true)
    (po_SiteCopy : PySem.W.plainOver K c_SiteCopy = true)
    (sa_SiteCopy : PySem.W.findIn K (.ref c_SiteCopy) "__setattr__" = some (some (.builtin "object.__setattr__")))
    (mk_SiteCopy : PySem.W.makesIn K c_SiteCopy = true)
    (kc_SiteCopy : PySem.W.keepIn K (.ref c_SiteCopy) = true)
    (n_SiteCopy_sent : PySem.W.findIn K (.ref c_SiteCopy) "sent" = some none)
    (n_SiteCopy_acknowledged : PySem.W.findIn K (.ref c_SiteCopy) "acknowledged" = some none)
    (n_SiteCopy_received : PySem.W.findIn K (.ref c_SiteCopy) "received" = some none)
    (pg_Site : PySem.W.plainGet K c_Site Str.empty = true)
    (hd_Site : PySem.W.hasDictIn K c_Site = true)
    (po_Site : PySem.W.plainOver K c_Site = true)
    (sa_Site : PySem.W.findIn K (.ref c_Site) "__setattr__" = some (some (.builtin "object.__setattr__")))
    (mk_Site : PySem.W.makesIn K c_Site = true)
    (kc_Site : PySem.W.keepIn K (.ref c_Site) = true)
    (n_Site_present : PySem.W.findIn K (.ref c_Site) "present" = some none)
    (n_Site_durable : PySem.W.findIn K (.ref c_Site) "durable" = some none)
    (pg_WirePacket : PySem.W.plainGet K c_WirePacket Str.empty = true)
    (hd_WirePacket : PySem.W.hasDictIn K c_WirePacket = true)
    (po_WirePacket : PySem.W.plainOver K c_WirePacket = true)
    (sa_WirePacket : PySem.W.findIn K (.ref c_WirePacket) "__setattr__" = some (some (.builtin "object.__setattr__")))
    (mk_WirePacket : PySem.W.makesIn K c_WirePacket = true)
    (kc_WirePacket : PySem.W.keepIn K (.ref c_WirePacket) = true)
    (n_WirePacket_octets : PySem.W.findIn K (.ref c_WirePacket) "octets" = some none)
    (n_WirePacket_damaged : PySem.W.findIn K (.ref c_WirePacket) "damaged" = some none)
    (pg_Network : PySem.W.plainGet K c_Network Str.empty = true)
    (hd_Network : PySem.W.hasDictIn K c_Network = true)
    (po_Network : PySem.W.plainOver K c_Network = true)
    (sa_Network : PySem.W.findIn K (.ref c_Network) "__setattr__" = some (some (.builtin "object.__setattr__")))
    (mk_Network : PySem.W.makesIn K c_Network = true)
    (kc_Network : PySem.W.keepIn K (.ref c_Network) = true)
    (n_Network_sites : PySem.W.findIn K (.ref c_Network) "sites" = some none)
    (n_Network_wires : PySem.W.findIn K (.ref c_Network) "wires" = some none)
    (n_Network_duplicated : PySem.W.findIn K (.ref c_Network) "duplicated" = some none)
    (pg_Packet : PySem.W.plainGet K c_Packet Str.empty = true)
    (hd_Packet : PySem.W.hasDictIn K c_Packet = true)
    (po_Packet : PySem.W.plainOver K c_Packet = true)
    (sa_Packet : PySem.W.findIn K (.ref c_Packet) "__setattr__" = some (some (.builtin "object.__setattr__")))
    (mk_Packet : PySem.W.makesIn K c_Packet = true)
    (kc_Packet : PySem.W.keepIn K (.ref c_Packet) = true)
    (n_Packet_kind : PySem.W.findIn K (.ref c_Packet) "kind" = some none)
    (n_Packet_sender : PySem.W.findIn K (.ref c_Packet) "sender" = some none)
    (n_Packet_receiver : PySem.W.findIn K (.ref c_Packet) "receiver" = some none)
    (n_Packet_number : PySem.W.findIn K (.ref c_Packet) "number" = some none)
    (n_Packet_payload : PySem.W.findIn K (.ref c_Packet) "payload" = some none)
    (k_FEWEST_SITES' : ∃ t, PySem.W.nsIn K mainGlobals "FEWEST_SITES" = some (some (.int (2) t)))
    (k_MOST_SITES' : ∃ t, PySem.W.nsIn K mainGlobals "MOST_SITES" = some (some (.int (4) t)))
    (k_MOST_MESSAGES' : ∃ t, PySem.W.nsIn K mainGlobals "MOST_MESSAGES" = some (some (.int (60) t)))
    (k_LONGEST_PAYLOAD' : ∃ t, PySem.W.nsIn K mainGlobals "LONGEST_PAYLOAD" = some (some (.int (16) t)))
    (k_LARGEST_OCTET' : ∃ t, PySem.W.nsIn K mainGlobals "LARGEST_OCTET" = some (some (.int (255) t)))
    (k_MOST_DUPLICATED' : ∃ t, PySem.W.nsIn K mainGlobals "MOST_DUPLICATED" = some (some (.int (100) t)))
    (k_LONGEST_READ' : ∃ t, PySem.W.nsIn K mainGlobals "LONGEST_READ" = some (some (.int (40) t)))
    (k_MESSAGE' : ∃ t, PySem.W.nsIn K mainGlobals "MESSAGE" = some (some (.int (1) t)))
    (k_ACKNOWLEDGEMENT' : ∃ t, PySem.W.nsIn K mainGlobals "ACKNOWLEDGEMENT" = some (some (.int (2) t)))
    (k_CHECKSUM_FACTOR' : ∃ t, PySem.W.nsIn K mainGlobals "CHECKSUM_FACTOR" = some (some (.int (257) t)))
    (k_CHECKSUM_MODULUS' : ∃ t, PySem.W.nsIn K mainGlobals "CHECKSUM_MODULUS" = some (some (.int (1000000007) t)))
    (k_CHECKSUM_LENGTH' : ∃ t, PySem.W.nsIn K mainGlobals "CHECKSUM_LENGTH" = some (some (.int (4) t)))
    (k_MESSAGE_HEAD_LENGTH' : ∃ t, PySem.W.nsIn K mainGlobals "MESSAGE_HEAD_LENGTH" = some (some (.int (5) t)))
    (k_SHORTEST_LENGTH' : ∃ t, PySem.W.nsIn K mainGlobals "SHORTEST_LENGTH" = some (some (.int (8) t)))
    (k_NOT_READABLE' : ∃ t, PySem.W.nsIn K mainGlobals "NOT_READABLE" = some (some (.int (0) t)))
    (k_MESSAGE_RECEIVED' : ∃ t, PySem.W.nsIn K mainGlobals "MESSAGE_RECEIVED" = some (some (.int (1) t)))
    (k_MESSAGE_RECEIVED_BEFORE' : ∃ t, PySem.W.nsIn K mainGlobals "MESSAGE_RECEIVED_BEFORE" = some (some (.int (2) t)))
    (k_EARLIER_MESSAGE_MISSING' : ∃ t, PySem.W.nsIn K mainGlobals "EARLIER_MESSAGE_MISSING" = some (some (.int (3) t)))
    (k_ACKNOWLEDGED_INCREASES' : ∃ t, PySem.W.nsIn K mainGlobals "ACKNOWLEDGED_INCREASES" = some (some (.int (4) t)))
    (k_ACKNOWLEDGED_STAYS' : ∃ t, PySem.W.nsIn K mainGlobals "ACKNOWLEDGED_STAYS" = some (some (.int (5) t)))
    (k_OUTSIDE_LIMITS' : ∃ t, PySem.W.nsIn K mainGlobals "OUTSIDE_LIMITS" = some (some (.int (-1) t)))
    (k_NO_SUCH_SITE' : ∃ t, PySem.W.nsIn K mainGlobals "NO_SUCH_SITE" = some (some (.int (-2) t)))
    (k_NO_SUCH_PACKET' : ∃ t, PySem.W.nsIn K mainGlobals "NO_SUCH_PACKET" = some (some (.int (-3) t)))
    (k_NO_SITES' : ∃ t, PySem.W.nsIn K mainGlobals "NO_SITES" = some (some (.int (-4) t)))
    (k_SITES_ALREADY' : ∃ t, PySem.W.nsIn K mainGlobals "SITES_ALREADY" = some (some (.int (-5) t)))
    (k_SAME_SITE' : ∃ t, PySem.W.nsIn K mainGlobals "SAME_SITE" = some (some (.int (-6) t)))
    (k_LIMIT_REACHED' : ∃ t, PySem.W.nsIn K mainGlobals "LIMIT_REACHED" = some (some (.int (-7) t)))
    (k_MESSAGE_ON_WIRES' : ∃ t, PySem.W.nsIn K mainGlobals "MESSAGE_ON_WIRES" = some (some (.int (-8) t)))
    (k_NOT_POSSIBLE' : ∃ t, PySem.W.nsIn K mainGlobals "NOT_POSSIBLE" = some (some (.int (-9) t)))
    (g_NUMBER_COUNTS : PySem.W.nsIn K mainGlobals "NUMBER_COUNTS" = some (some (.ref k_NUMBER_COUNTS)))
    (t_NUMBER_COUNTS' : ∃ (o : Obj) (its : Array Value) (n : Nat), K.lookup k_NUMBER_COUNTS = some o ∧ o.cls = .type "tuple" ∧ o.data = .seq its n ∧ its.size ≤ sizeLine ∧ Vals [.int 1, .int 2, .int 1, .int 1, .int 1, .int 2, .int 1, .int 1, .int 1, .int 3, .int 4, .int 3, .int 2, .int 0, .int 1, .int 4, .int 0, .int 0, .int 0, .int 0] its.toList)
    (g_WITH_LIST : PySem.W.nsIn K mainGlobals "WITH_LIST" = some (some (.ref k_WITH_LIST)))
    (t_WITH_LIST' : ∃ (o : Obj) (its : Array Value) (n : Nat), K.lookup k_WITH_LIST = some o ∧ o.cls = .type "tuple" ∧ o.data = .seq its n ∧ its.size ≤ sizeLine ∧ Vals [.int 1, .int 15, .int 16] its.toList)
    (g_CHANGES : PySem.W.nsIn K mainGlobals "CHANGES" = some (some (.ref k_CHANGES)))
    (t_CHANGES' : ∃ (o : Obj) (its : Array Value) (n : Nat), K.lookup k_CHANGES = some o ∧ o.cls = .type "tuple" ∧ o.data = .seq its n ∧ its.size ≤ sizeLine ∧ Vals [.int 0, .int 1, .int 2, .int 3, .int 4, .int 5, .int 6, .int 7, .int 8, .int 9, .int 17] its.toList)
    (g_PACKET_CALLS : PySem.W.nsIn K mainGlobals "PACKET_CALLS" = some (some (.ref k_PACKET_CALLS)))
    (t_PACKET_CALLS' : ∃ (o : Obj) (its : Array Value) (n : Nat), K.lookup k_PACKET_CALLS = some o ∧ o.cls = .type "tuple" ∧ o.data = .seq its n ∧ its.size ≤ sizeLine ∧ Vals [.int 15, .int 16] its.toList)
    (b_all : PySem.W.nsIn K mainGlobals "all" = some none)
    (b_any : PySem.W.nsIn K mainGlobals "any" = some none)
    (b_len : PySem.W.nsIn K mainGlobals "len" = some none)
    (b_list : PySem.W.nsIn K mainGlobals "list" = some none)
    (b_range : PySem.W.nsIn K mainGlobals "range" = some none)
    (b_sum : PySem.W.nsIn K mainGlobals "sum" = some none)
    (f_split_calls' : FnAt K mg "split_calls" s_split_calls f_split_calls ["calls"])
    (f_is_site_number' : FnAt K mg "is_site_number" s_is_site_number f_is_site_number ["number"])
    (f_is_octet' : FnAt K mg "is_octet" s_is_octet f_is_octet ["value"])
    (f_is_payload' : FnAt K mg "is_payload" s_is_payload f_is_payload ["row"])
    (f_is_copy_number' : FnAt K mg "is_copy_number" s_is_copy_number f_is_copy_number ["number"])
    (f_is_message_number' : FnAt K mg "is_message_number" s_is_message_number f_is_message_number ["number"])
    (f_is_message_count' : FnAt K mg "is_message_count" s_is_message_count f_is_message_count ["count"])
    (f_checksum_of' : FnAt K mg "checksum_of" s_checksum_of f_checksum_of ["octets"])
    (f_octets_of' : FnAt K mg "octets_of" s_octets_of f_octets_of ["packet"])
    (f_has_valid_fields' : FnAt K mg "has_valid_fields" s_has_valid_fields f_has_valid_fields ["packet"])
    (f_packet_of' : FnAt K mg "packet_of" s_packet_of f_packet_of ["octets"])
    (f_put_on_wires' : FnAt K mg "put_on_wires" s_put_on_wires f_put_on_wires ["network", "packet"])
    (f_transmit_durable' : FnAt K mg "transmit_durable" s_transmit_durable f_transmit_durable ["network", "sender", "receiver"])
    (f_has_message' : FnAt K mg "has_message" s_has_message f_has_message ["network", "sender", "receiver"])
    (f_take_acknowledgement' : FnAt K mg "take_acknowledgement" s_take_acknowledgement f_take_acknowledgement ["present", "packet"])
    (f_take_message' : FnAt K mg "take_message" s_take_message f_take_message ["present", "packet"])
    (f_deliver_packet' : FnAt K mg "deliver_packet" s_deliver_packet f_deliver_packet ["network", "index"])
    (f_deliver_all' : FnAt K mg "deliver_all" s_deliver_all f_deliver_all ["network"])
    (f_sync_all' : FnAt K mg "sync_all" s_sync_all f_sync_all ["network"])
    (f_perform_exchange' : FnAt K mg "perform_exchange" s_perform_exchange f_perform_exchange ["network"])
    (f_sites_refusal' : FnAt K mg "sites_refusal" s_sites_refusal f_sites_refusal ["network", "numbers", "others_fit"])
    (f_pair_refusal' : FnAt K mg "pair_refusal" s_pair_refusal f_pair_refusal ["network", "one", "other", "others_fit"])
    (f_packet_refusal' : FnAt K mg "packet_refusal" s_packet_refusal f_packet_refusal ["network", "index", "others_fit"])
    (f_create_sites' : FnAt K mg "create_sites" s_create_sites f_create_sites ["network", "count"])
    (f_post' : FnAt K mg "post" s_post f_post ["network", "sender", "receiver", "payload"])
    (f_sync' : FnAt K mg "sync" s_sync f_sync ["network", "number"])
    (f_crash' : FnAt K mg "crash" s_crash f_crash ["network", "number"])
    (f_at_risk' : FnAt K mg "at_risk" s_at_risk f_at_risk ["network", "number"])
    (f_transmit' : FnAt K mg "transmit" s_transmit f_transmit ["network", "sender", "receiver"])
    (f_deliver' : FnAt K mg "deliver" s_deliver f_deliver ["network", "index"])
    (f_lose' : FnAt K mg "lose" s_lose f_lose ["network", "index"])
    (f_duplicate' : FnAt K mg "duplicate" s_duplicate f_duplicate ["network", "index"])
    (f_damage' : FnAt K mg "damage" s_damage f_damage ["network", "index", "position", "value"])
    (f_exchange' : FnAt K mg "exchange" s_exchange f_exchange ["network"])
    (f_answer_change' : FnAt K mg "answer_change" s_answer_change f_answer_change ["network", "operation", "numbers", "row"])
    (f_received' : FnAt K mg "received" s_received f_received ["network", "number", "sender", "first", "count"])
    (f_link_state' : FnAt K mg "link_state" s_link_state f_link_state ["network", "number", "other", "copy_number"])
    (f_unsettled' : FnAt K mg "unsettled" s_unsettled f_unsettled ["network", "sender", "receiver"])
    (f_listed_fields' : FnAt K mg "listed_fields" s_listed_fields f_listed_fields ["packet"])
    (f_list_packets' : FnAt K mg "list_packets" s_list_packets f_list_packets ["network"])
    (f_packet_bytes' : FnAt K mg "packet_bytes" s_packet_bytes f_packet_bytes ["network", "index"])
    (f_all_arrived' : FnAt K mg "all_arrived" s_all_arrived f_all_arrived ["network"])
    (f_all_durable' : FnAt K mg "all_durable" s_all_durable f_all_durable ["network"])
    (f_is_settled' : FnAt K mg "is_settled" s_is_settled f_is_settled ["network"])
    (f_totals' : FnAt K mg "totals" s_totals f_totals ["network"])
    (f_answer_look' : FnAt K mg "answer_look" s_answer_look f_answer_look ["network", "operation", "numbers"])
    (f_write_packet' : FnAt K mg "write_packet" s_write_packet f_write_packet ["kind", "sender", "receiver", "number", "payload"])
    (f_read_packet' : FnAt K mg "read_packet" s_read_packet f_read_packet ["octets"])
    (f_answer_packet_call' : FnAt K mg "answer_packet_call" s_answer_packet_call f_answer_packet_call ["operation", "numbers", "row"])
    (f_answer_call' : FnAt K mg "answer_call" s_answer_call f_answer_call ["network", "call"])
    (ea : PySem.W.nsIn K mainGlobals "answers" = some (some (.ref f_answers)))
    (el : K.lookup f_answers = some ⟨oc, od, .func (PySem.W.fnOf "answers" "answers" (defArgs s_answers) (defBody s_answers) (defScope s_answers) .none kV dc pm an cd ct), sl⟩) (ec : PySem.W.codeIn K cd "answers" = true) (ek : PySem.W.keepIn K (.ref f_answers) = true)
    : ∃ fd : FuncData, (∀ (s : Shared) (us : List Value), us.length = (["calls"] : List Str).length → BindsTo s fd ⟨us, []⟩ ((["calls"] : List Str).zip us)) ∧ ∀ base : Heap, K.In base → base.Ns mainGlobals mg → FnOk P w K mg base CX0 10 fa fd ["calls"] (spAns K) := by
  have e := (PySem.W.mg_of X G ea).symm.trans hfa
  cases e
  have T : Txt K mg ⟨c_Call, c_SiteCopy, c_Site, c_WirePacket, c_Network, c_Packet, k_NUMBER_COUNTS, k_WITH_LIST, k_CHANGES, k_PACKET_CALLS, f_Call_init, f_split_calls, f_SiteCopy_init, f_SiteCopy_sent_count, f_SiteCopy_received_count, f_SiteCopy_acknowledged_sum, f_SiteCopy_copied, f_SiteCopy_equals, f_Site_init, f_Site_at_risk, f_Site_sync, f_Site_crash, f_WirePacket_init, f_WirePacket_twin, f_Network_init, f_Network_site, f_Network_add_sites, f_Network_pairs, f_is_site_number, f_is_octet, f_is_payload, f_is_copy_number, f_is_message_number, f_is_message_count, f_Packet_init, f_checksum_of, f_octets_of, f_has_valid_fields, f_packet_of, f_put_on_wires, f_transmit_durable, f_has_message, f_take_acknowledgement, f_take_message, f_deliver_packet, f_deliver_all, f_sync_all, f_perform_exchange, f_sites_refusal, f_pair_refusal, f_packet_refusal, f_create_sites, f_post, f_sync, f_crash, f_at_risk, f_transmit, f_deliver, f_lose, f_duplicate, f_damage, f_exchange, f_answer_change, f_received, f_link_state, f_unsettled, f_listed_fields, f_list_packets, f_packet_bytes, f_all_arrived, f_all_durable, f_is_settled, f_totals, f_answer_look, f_write_packet, f_read_packet, f_answer_packet_call, f_answer_call, fa⟩ := {
    cl_Call := ⟨pg_Call, hd_Call, po_Call, sa_Call⟩
    g_Call := PySem.W.mg_of X G g_Call
    n_Call_operation := n_Call_operation
    n_Call_numbers := n_Call_numbers
    n_Call_row := n_Call_row
    m_Call := ⟨mk_Call, f_Call_init'.m.at_, f_Call_init'.m.fn, kc_Call⟩
    cl_SiteCopy := ⟨pg_SiteCopy, hd_SiteCopy, po_SiteCopy, sa_SiteCopy⟩
    g_SiteCopy := PySem.W.mg_of X G g_SiteCopy
    n_SiteCopy_sent := n_SiteCopy_sent
    n_SiteCopy_acknowledged := n_SiteCopy_acknowledged
    n_SiteCopy_received := n_SiteCopy_received
    m_SiteCopy := ⟨mk_SiteCopy, f_SiteCopy_init'.m.at_, f_SiteCopy_init'.m.fn, kc_SiteCopy⟩
    cl_Site := ⟨pg_Site, hd_Site, po_Site, sa_Site⟩
    g_Site := PySem.W.mg_of X G g_Site
    n_Site_present := n_Site_present
    n_Site_durable := n_Site_durable
    m_Site := ⟨mk_Site, f_Site_init'.m.at_, f_Site_init'.m.fn, kc_Site⟩
    cl_WirePacket := ⟨pg_WirePacket, hd_WirePacket, po_WirePacket, sa_WirePacket⟩
    g_WirePacket := PySem.W.mg_of X G g_WirePacket
    n_WirePacket_octets := n_WirePacket_octets
    n_WirePacket_damaged := n_WirePacket_damaged
    m_WirePacket := ⟨mk_WirePacket, f_WirePacket_init'.m.at_, f_WirePacket_init'.m.fn, kc_WirePacket⟩
    cl_Network := ⟨pg_Network, hd_Network, po_Network, sa_Network⟩
    g_Network := PySem.W.mg_of X G g_Network
    n_Network_sites := n_Network_sites
    n_Network_wires := n_Network_wires
    n_Network_duplicated := n_Network_duplicated
    m_Network := ⟨mk_Network, f_Network_init'.m.at_, f_Network_init'.m.fn, kc_Network⟩
    cl_Packet := ⟨pg_Packet, hd_Packet, po_Packet, sa_Packet⟩
    g_Packet := PySem.W.mg_of X G g_Packet
    n_Packet_kind := n_Packet_kind
    n_Packet_sender := n_Packet_sender
    n_Packet_receiver := n_Packet_receiver
    n_Packet_number := n_Packet_number
    n_Packet_payload := n_Packet_payload
    m_Packet := ⟨mk_Packet, f_Packet_init'.m.at_, f_Packet_init'.m.fn, kc_Packet⟩
    k_FEWEST_SITES := let ⟨t, q⟩ := k_FEWEST_SITES'; ⟨t, PySem.W.mg_of X G q⟩
    k_MOST_SITES := let ⟨t, q⟩ := k_MOST_SITES'; ⟨t, PySem.W.mg_of X G q⟩
    k_MOST_MESSAGES := let ⟨t, q⟩ := k_MOST_MESSAGES'; ⟨t, PySem.W.mg_of X G q⟩
    k_LONGEST_PAYLOAD := let ⟨t, q⟩ := k_LONGEST_PAYLOAD'; ⟨t, PySem.W.mg_of X G q⟩
    k_LARGEST_OCTET := let ⟨t, q⟩ := k_LARGEST_OCTET'; ⟨t, PySem.W.mg_of X G q⟩
    k_MOST_DUPLICATED := let ⟨t, q⟩ := k_MOST_DUPLICATED'; ⟨t, PySem.W.mg_of X G q⟩
    k_LONGEST_READ := let ⟨t, q⟩ := k_LONGEST_READ'; ⟨t, PySem.W.mg_of X G q⟩
    k_MESSAGE := let ⟨t, q⟩ := k_MESSAGE'; ⟨t, PySem.W.mg_of X G q⟩
    k_ACKNOWLEDGEMENT := let ⟨t, q⟩ := k_ACKNOWLEDGEMENT'; ⟨t, PySem.W.mg_of X G q⟩
    k_CHECKSUM_FACTOR := let ⟨t, q⟩ := k_CHECKSUM_FACTOR'; ⟨t, PySem.W.mg_of X G q⟩
    k_CHECKSUM_MODULUS := let ⟨t, q⟩ := k_CHECKSUM_MODULUS'; ⟨t, PySem.W.mg_of X G q⟩
    k_CHECKSUM_LENGTH := let ⟨t, q⟩ := k_CHECKSUM_LENGTH'; ⟨t, PySem.W.mg_of X G q⟩
    k_MESSAGE_HEAD_LENGTH := let ⟨t, q⟩ := k_MESSAGE_HEAD_LENGTH'; ⟨t, PySem.W.mg_of X G q⟩
    k_SHORTEST_LENGTH := let ⟨t, q⟩ := k_SHORTEST_LENGTH'; ⟨t, PySem.W.mg_of X G q⟩
    k_NOT_READABLE := let ⟨t, q⟩ := k_NOT_READABLE'; ⟨t, PySem.W.mg_of X G q⟩
    k_MESSAGE_RECEIVED := let ⟨t, q⟩ := k_MESSAGE_RECEIVED'; ⟨t, PySem.W.mg_of X G q⟩
    k_MESSAGE_RECEIVED_BEFORE := let ⟨t, q⟩ := k_MESSAGE_RECEIVED_BEFORE'; ⟨t, PySem.W.mg_of X G q⟩
    k_EARLIER_MESSAGE_MISSING := let ⟨t, q⟩ := k_EARLIER_MESSAGE_MISSING'; ⟨t, PySem.W.mg_of X G q⟩
    k_ACKNOWLEDGED_INCREASES := let ⟨t, q⟩ := k_ACKNOWLEDGED_INCREASES'; ⟨t, PySem.W.mg_of X G q⟩
    k_ACKNOWLEDGED_STAYS := let ⟨t, q⟩ := k_ACKNOWLEDGED_STAYS'; ⟨t, PySem.W.mg_of X G q⟩
    k_OUTSIDE_LIMITS := let ⟨t, q⟩ := k_OUTSIDE_LIMITS'; ⟨t, PySem.W.mg_of X G q⟩
    k_NO_SUCH_SITE := let ⟨t, q⟩ := k_NO_SUCH_SITE'; ⟨t, PySem.W.mg_of X G q⟩
    k_NO_SUCH_PACKET := let ⟨t, q⟩ := k_NO_SUCH_PACKET'; ⟨t, PySem.W.mg_of X G q⟩
    k_NO_SITES := let ⟨t, q⟩ := k_NO_SITES'; ⟨t, PySem.W.mg_of X G q⟩
    k_SITES_ALREADY := let ⟨t, q⟩ := k_SITES_ALREADY'; ⟨t, PySem.W.mg_of X G q⟩
    k_SAME_SITE := let ⟨t, q⟩ := k_SAME_SITE'; ⟨t, PySem.W.mg_of X G q⟩
    k_LIMIT_REACHED := let ⟨t, q⟩ := k_LIMIT_REACHED'; ⟨t, PySem.W.mg_of X G q⟩
    k_MESSAGE_ON_WIRES := let ⟨t, q⟩ := k_MESSAGE_ON_WIRES'; ⟨t, PySem.W.mg_of X G q⟩
    k_NOT_POSSIBLE := let ⟨t, q⟩ := k_NOT_POSSIBLE'; ⟨t, PySem.W.mg_of X G q⟩
    g_NUMBER_COUNTS := PySem.W.mg_of X G g_NUMBER_COUNTS
    t_NUMBER_COUNTS := t_NUMBER_COUNTS'
    g_WITH_LIST := PySem.W.mg_of X G g_WITH_LIST
    t_WITH_LIST := t_WITH_LIST'
    g_CHANGES := PySem.W.mg_of X G g_CHANGES
    t_CHANGES := t_CHANGES'
    g_PACKET_CALLS := PySem.W.mg_of X G g_PACKET_CALLS
    t_PACKET_CALLS := t_PACKET_CALLS'
    b_all := PySem.W.mg_none_of X G b_all
    b_any := PySem.W.mg_none_of X G b_any
    b_len := PySem.W.mg_none_of X G b_len
    b_list := PySem.W.mg_none_of X G b_list
    b_range := PySem.W.mg_none_of X G b_range
    b_sum := PySem.W.mg_none_of X G b_sum
    f_Call_init := f_Call_init'
    f_split_calls := f_split_calls'
    f_SiteCopy_init := f_SiteCopy_init'
    f_SiteCopy_sent_count := f_SiteCopy_sent_count'
    f_SiteCopy_received_count := f_SiteCopy_received_count'
    f_SiteCopy_acknowledged_sum := f_SiteCopy_acknowledged_sum'
    f_SiteCopy_copied := f_SiteCopy_copied'
    f_SiteCopy_equals := f_SiteCopy_equals'
    f_Site_init := f_Site_init'
    f_Site_at_risk := f_Site_at_risk'
    f_Site_sync := f_Site_sync'
    f_Site_crash := f_Site_crash'
    f_WirePacket_init := f_WirePacket_init'
    f_WirePacket_twin := f_WirePacket_twin'
    f_Network_init := f_Network_init'
    f_Network_site := f_Network_site'
    f_Network_add_sites := f_Network_add_sites'
    f_Network_pairs := f_Network_pairs'
    f_is_site_number := f_is_site_number'
    f_is_octet := f_is_octet'
    f_is_payload := f_is_payload'
    f_is_copy_number := f_is_copy_number'
    f_is_message_number := f_is_message_number'
    f_is_message_count := f_is_message_count'
    f_Packet_init := f_Packet_init'
    f_checksum_of := f_checksum_of'
    f_octets_of := f_octets_of'
    f_has_valid_fields := f_has_valid_fields'
    f_packet_of := f_packet_of'
    f_put_on_wires := f_put_on_wires'
    f_transmit_durable := f_transmit_durable'
    f_has_message := f_has_message'
    f_take_acknowledgement := f_take_acknowledgement'
    f_take_message := f_take_message'
    f_deliver_packet := f_deliver_packet'
    f_deliver_all := f_deliver_all'
    f_sync_all := f_sync_all'
    f_perform_exchange := f_perform_exchange'
    f_sites_refusal := f_sites_refusal'
    f_pair_refusal := f_pair_refusal'
    f_packet_refusal := f_packet_refusal'
    f_create_sites := f_create_sites'
    f_post := f_post'
    f_sync := f_sync'
    f_crash := f_crash'
    f_at_risk := f_at_risk'
    f_transmit := f_transmit'
    f_deliver := f_deliver'
    f_lose := f_lose'
    f_duplicate := f_duplicate'
    f_damage := f_damage'
    f_exchange := f_exchange'
    f_answer_change := f_answer_change'
    f_received := f_received'
    f_link_state := f_link_state'
    f_unsettled := f_unsettled'
    f_listed_fields := f_listed_fields'
    f_list_packets := f_list_packets'
    f_packet_bytes := f_packet_bytes'
    f_all_arrived := f_all_arrived'
    f_all_durable := f_all_durable'
    f_is_settled := f_is_settled'
    f_totals := f_totals'
    f_answer_look := f_answer_look'
    f_write_packet := f_write_packet'
    f_read_packet := f_read_packet'
    f_answer_packet_call := f_answer_packet_call'
    f_answer_call := f_answer_call'
    f_answers := at_answers X G ea el ec ek
  }
  exact ⟨_, fun s us hu => match us, hu with | [_], _ => .of_eq rfl, fun base _ _ => ok_entry T (fun_mk (st := s_answers) el ec ek)⟩
end
end Sur
open PySem PySem.W PyProof.Rows
set_option maxRecDepth 100000 in
set_option maxHeartbeats 0 in
theorem PySem.Challenge.cw_surelinks_s01_answers_holds : PySem.Challenge.rw_surelinks_s01_answers.Holds := by
  w_on; k_headS; (case hw => exact ⟨[.list [.int 13]], by decide +kernel, by decide +kernel⟩)
  k_fillS
  refine L2.walk_specK (r := PySem.Challenge.rw_surelinks_s01_answers) (k := 10) (CX := L2.CX0) (ps := ["calls"]) (sp := Sur.spAns) (by decide +kernel) rfl rfl ⟨rfl, by decide, by decide⟩ (fun w h Y => PySem.W.kIn_of Y) ?F ?S (fun _ _ _ _ z => z)
  case F =>
    intro w mg fa h Y KX G hmg
    refine' Sur.all_mk KX G hmg ?g_Call ?g_SiteCopy ?g_Site ?g_WirePacket ?g_Network ?g_Packet ?f_Call_init' ?f_SiteCopy_init' ?f_SiteCopy_sent_count' ?f_SiteCopy_received_count' ?f_SiteCopy_acknowledged_sum' ?f_SiteCopy_copied' ?f_SiteCopy_equals' ?f_Site_init' ?f_Site_at_risk' ?f_Site_sync' ?f_Site_crash' ?f_WirePacket_init' ?f_WirePacket_twin' ?f_Network_init' ?f_Network_site' ?f_Network_add_sites' ?f_Network_pairs' ?f_Packet_init' ?pg_Call ?hd_Call ?po_Call ?sa_Call ?mk_Call ?kc_Call ?n_Call_operation ?n_Call_numbers ?n_Call_row ?pg_SiteCopy ?hd_SiteCopy ?po_SiteCopy ?sa_SiteCopy ?mk_SiteCopy ?kc_SiteCopy ?n_SiteCopy_sent ?n_SiteCopy_acknowledged ?n_SiteCopy_received ?pg_Site ?hd_Site ?po_Site ?sa_Site ?mk_Site ?kc_Site ?n_Site_present ?n_Site_durable ?pg_WirePacket ?hd_WirePacket ?po_WirePacket ?sa_WirePacket ?mk_WirePacket ?kc_WirePacket ?n_WirePacket_octets ?n_WirePacket_damaged ?pg_Network ?hd_Network ?po_Network ?sa_Network ?mk_Network ?kc_Network ?n_Network_sites ?n_Network_wires ?n_Network_duplicated ?pg_Packet ?hd_Packet ?po_Packet ?sa_Packet ?mk_Packet ?kc_Packet ?n_Packet_kind ?n_Packet_sender ?n_Packet_receiver ?n_Packet_number ?n_Packet_payload ?k_FEWEST_SITES' ?k_MOST_SITES' ?k_MOST_MESSAGES' ?k_LONGEST_PAYLOAD' ?k_LARGEST_OCTET' ?k_MOST_DUPLICATED' ?k_LONGEST_READ' ?k_MESSAGE' ?k_ACKNOWLEDGEMENT' ?k_CHECKSUM_FACTOR' ?k_CHECKSUM_MODULUS' ?k_CHECKSUM_LENGTH' ?k_MESSAGE_HEAD_LENGTH' ?k_SHORTEST_LENGTH' ?k_NOT_READABLE' ?k_MESSAGE_RECEIVED' ?k_MESSAGE_RECEIVED_BEFORE' ?k_EARLIER_MESSAGE_MISSING' ?k_ACKNOWLEDGED_INCREASES' ?k_ACKNOWLEDGED_STAYS' ?k_OUTSIDE_LIMITS' ?k_NO_SUCH_SITE' ?k_NO_SUCH_PACKET' ?k_NO_SITES' ?k_SITES_ALREADY' ?k_SAME_SITE' ?k_LIMIT_REACHED' ?k_MESSAGE_ON_WIRES' ?k_NOT_POSSIBLE' ?g_NUMBER_COUNTS ?t_NUMBER_COUNTS' ?g_WITH_LIST ?t_WITH_LIST' ?g_CHANGES ?t_CHANGES' ?g_PACKET_CALLS ?t_PACKET_CALLS' ?b_all ?b_any ?b_len ?b_list ?b_range ?b_sum ?f_split_calls' ?f_is_site_number' ?f_is_octet' ?f_is_payload' ?f_is_copy_number' ?f_is_message_number' ?f_is_message_count' ?f_checksum_of' ?f_octets_of' ?f_has_valid_fields' ?f_packet_of' ?f_put_on_wires' ?f_transmit_durable' ?f_has_message' ?f_take_acknowledgement' ?f_take_message' ?f_deliver_packet' ?f_deliver_all' ?f_sync_all' ?f_perform_exchange' ?f_sites_refusal' ?f_pair_refusal' ?f_packet_refusal' ?f_create_sites' ?f_post' ?f_sync' ?f_crash' ?f_at_risk' ?f_transmit' ?f_deliver' ?f_lose' ?f_duplicate' ?f_damage' ?f_exchange' ?f_answer_change' ?f_received' ?f_link_state' ?f_unsettled' ?f_listed_fields' ?f_list_packets' ?f_packet_bytes' ?f_all_arrived' ?f_all_durable' ?f_is_settled' ?f_totals' ?f_answer_look' ?f_write_packet' ?f_read_packet' ?f_answer_packet_call' ?f_answer_call' ?ea ?el ?ec ?ek
    (case g_Call => k_is)
    (case g_SiteCopy => k_is)
    (case g_Site => k_is)
    (case g_WirePacket => k_is)
    (case g_Network => k_is)
    (case g_Packet => k_is)
    (case f_Call_init' => refine' Sur.at_Call_init ?xa ?xi ?xl ?xc ?xk; (case xa => k_is); (case xi => k_is); (case xl => k_is); (case xc => k_is); (case xk => k_is))
    (case f_SiteCopy_init' => refine' Sur.at_SiteCopy_init ?xa ?xi ?xl ?xc ?xk; (case xa => k_is); (case xi => k_is); (case xl => k_is); (case xc => k_is); (case xk => k_is))
    (case f_SiteCopy_sent_count' => refine' Sur.at_SiteCopy_sent_count ?xa ?xi ?xl ?xc ?xk; (case xa => k_is); (case xi => k_is); (case xl => k_is); (case xc => k_is); (case xk => k_is))
    (case f_SiteCopy_received_count' => refine' Sur.at_SiteCopy_received_count ?xa ?xi ?xl ?xc ?xk; (case xa => k_is); (case xi => k_is); (case xl => k_is); (case xc => k_is); (case xk => k_is))
    (case f_SiteCopy_acknowledged_sum' => refine' Sur.at_SiteCopy_acknowledged_sum ?xa ?xi ?xl ?xc ?xk; (case xa => k_is); (case xi => k_is); (case xl => k_is); (case xc => k_is); (case xk => k_is))
    (case f_SiteCopy_copied' => refine' Sur.at_SiteCopy_copied ?xa ?xi ?xl ?xc ?xk; (case xa => k_is); (case xi => k_is); (case xl => k_is); (case xc => k_is); (case xk => k_is))
    (case f_SiteCopy_equals' => refine' Sur.at_SiteCopy_equals ?xa ?xi ?xl ?xc ?xk; (case xa => k_is); (case xi => k_is); (case xl => k_is); (case xc => k_is); (case xk => k_is))
    (case f_Site_init' => refine' Sur.at_Site_init ?xa ?xi ?xl ?xc ?xk; (case xa => k_is); (case xi => k_is); (case xl => k_is); (case xc => k_is); (case xk => k_is))
    (case f_Site_at_risk' => refine' Sur.at_Site_at_risk ?xa ?xi ?xl ?xc ?xk; (case xa => k_is); (case xi => k_is); (case xl => k_is); (case xc => k_is); (case xk => k_is))
    (case f_Site_sync' => refine' Sur.at_Site_sync ?xa ?xi ?xl ?xc ?xk; (case xa => k_is); (case xi => k_is); (case xl => k_is); (case xc => k_is); (case xk => k_is))
    (case f_Site_crash' => refine' Sur.at_Site_crash ?xa ?xi ?xl ?xc ?xk; (case xa => k_is); (case xi => k_is); (case xl => k_is); (case xc => k_is); (case xk => k_is))
    (case f_WirePacket_init' => refine' Sur.at_WirePacket_init ?xa ?xi ?xl ?xc ?xk; (case xa => k_is); (case xi => k_is); (case xl => k_is); (case xc => k_is); (case xk => k_is))
    (case f_WirePacket_twin' => refine' Sur.at_WirePacket_twin ?xa ?xi ?xl ?xc ?xk; (case xa => k_is); (case xi => k_is); (case xl => k_is); (case xc => k_is); (case xk => k_is))
    (case f_Network_init' => refine' Sur.at_Network_init ?xa ?xi ?xl ?xc ?xk; (case xa => k_is); (case xi => k_is); (case xl => k_is); (case xc => k_is); (case xk => k_is))
    (case f_Network_site' => refine' Sur.at_Network_site ?xa ?xi ?xl ?xc ?xk; (case xa => k_is); (case xi => k_is); (case xl => k_is); (case xc => k_is); (case xk => k_is))
    (case f_Network_add_sites' => refine' Sur.at_Network_add_sites ?xa ?xi ?xl ?xc ?xk; (case xa => k_is); (case xi => k_is); (case xl => k_is); (case xc => k_is); (case xk => k_is))
    (case f_Network_pairs' => refine' Sur.at_Network_pairs ?xa ?xi ?xl ?xc ?xk; (case xa => k_is); (case xi => k_is); (case xl => k_is); (case xc => k_is); (case xk => k_is))
    (case f_Packet_init' => refine' Sur.at_Packet_init ?xa ?xi ?xl ?xc ?xk; (case xa => k_is); (case xi => k_is); (case xl => k_is); (case xc => k_is); (case xk => k_is))
    (case pg_Call => k_is)
    (case hd_Call => k_is)
    (case po_Call => k_is)
    (case sa_Call => k_is)
    (case mk_Call => k_is)
    (case kc_Call => k_is)
    (case n_Call_operation => k_is)
    (case n_Call_numbers => k_is)
    (case n_Call_row => k_is)
    (case pg_SiteCopy => k_is)
    (case hd_SiteCopy => k_is)
    (case po_SiteCopy => k_is)
    (case sa_SiteCopy => k_is)
    (case mk_SiteCopy => k_is)
    (case kc_SiteCopy => k_is)
    (case n_SiteCopy_sent => k_is)
    (case n_SiteCopy_acknowledged => k_is)
    (case n_SiteCopy_received => k_is)
    (case pg_Site => k_is)
    (case hd_Site => k_is)
    (case po_Site => k_is)
    (case sa_Site => k_is)
    (case mk_Site => k_is)
    (case kc_Site => k_is)
    (case n_Site_present => k_is)
    (case n_Site_durable => k_is)
    (case pg_WirePacket => k_is)
    (case hd_WirePacket => k_is)
    (case po_WirePacket => k_is)
    (case sa_WirePacket => k_is)
    (case mk_WirePacket => k_is)
    (case kc_WirePacket => k_is)
    (case n_WirePacket_octets => k_is)
    (case n_WirePacket_damaged => k_is)
    (case pg_Network => k_is)
    (case hd_Network => k_is)
    (case po_Network => k_is)
    (case sa_Network => k_is)
    (case mk_Network => k_is)
    (case kc_Network => k_is)
    (case n_Network_sites => k_is)
    (case n_Network_wires => k_is)
    (case n_Network_duplicated => k_is)
    (case pg_Packet => k_is)
    (case hd_Packet => k_is)
    (case po_Packet => k_is)
    (case sa_Packet => k_is)
    (case mk_Packet => k_is)
    (case kc_Packet => k_is)
    (case n_Packet_kind => k_is)
    (case n_Packet_sender => k_is)
    (case n_Packet_receiver => k_is)
    (case n_Packet_number => k_is)
    (case n_Packet_payload => k_is)
    (case k_FEWEST_SITES' => refine' Sur.int_k ?xk; (case xk => k_is))
    (case k_MOST_SITES' => refine' Sur.int_k ?xk; (case xk => k_is))
    (case k_MOST_MESSAGES' => refine' Sur.int_k ?xk; (case xk => k_is))
    (case k_LONGEST_PAYLOAD' => refine' Sur.int_k ?xk; (case xk => k_is))
    (case k_LARGEST_OCTET' => refine' Sur.int_k ?xk; (case xk => k_is))
    (case k_MOST_DUPLICATED' => refine' Sur.int_k ?xk; (case xk => k_is))
    (case k_LONGEST_READ' => refine' Sur.int_k ?xk; (case xk => k_is))
    (case k_MESSAGE' => refine' Sur.int_k ?xk; (case xk => k_is))
    (case k_ACKNOWLEDGEMENT' => refine' Sur.int_k ?xk; (case xk => k_is))
    (case k_CHECKSUM_FACTOR' => refine' Sur.int_k ?xk; (case xk => k_is))
    (case k_CHECKSUM_MODULUS' => refine' Sur.int_k ?xk; (case xk => k_is))
    (case k_CHECKSUM_LENGTH' => refine' Sur.int_k ?xk; (case xk => k_is))
    (case k_MESSAGE_HEAD_LENGTH' => refine' Sur.int_k ?xk; (case xk => k_is))
    (case k_SHORTEST_LENGTH' => refine' Sur.int_k ?xk; (case xk => k_is))
    (case k_NOT_READABLE' => refine' Sur.int_k ?xk; (case xk => k_is))
    (case k_MESSAGE_RECEIVED' => refine' Sur.int_k ?xk; (case xk => k_is))
    (case k_MESSAGE_RECEIVED_BEFORE' => refine' Sur.int_k ?xk; (case xk => k_is))
    (case k_EARLIER_MESSAGE_MISSING' => refine' Sur.int_k ?xk; (case xk => k_is))
    (case k_ACKNOWLEDGED_INCREASES' => refine' Sur.int_k ?xk; (case xk => k_is))
    (case k_ACKNOWLEDGED_STAYS' => refine' Sur.int_k ?xk; (case xk => k_is))
    (case k_OUTSIDE_LIMITS' => refine' Sur.int_k ?xk; (case xk => k_is))
    (case k_NO_SUCH_SITE' => refine' Sur.int_k ?xk; (case xk => k_is))
    (case k_NO_SUCH_PACKET' => refine' Sur.int_k ?xk; (case xk => k_is))
    (case k_NO_SITES' => refine' Sur.int_k ?xk; (case xk => k_is))
    (case k_SITES_ALREADY' => refine' Sur.int_k ?xk; (case xk => k_is))
    (case k_SAME_SITE' => refine' Sur.int_k ?xk; (case xk => k_is))
    (case k_LIMIT_REACHED' => refine' Sur.int_k ?xk; (case xk => k_is))
    (case k_MESSAGE_ON_WIRES' => refine' Sur.int_k ?xk; (case xk => k_is))
    (case k_NOT_POSSIBLE' => refine' Sur.int_k ?xk; (case xk => k_is))
    (case g_NUMBER_COUNTS => k_is)
    (case t_NUMBER_COUNTS' => refine' Sur.tu_NUMBER_COUNTS ?xl; (case xl => k_is))
    (case g_WITH_LIST => k_is)
    (case t_WITH_LIST' => refine' Sur.tu_WITH_LIST ?xl; (case xl => k_is))
    (case g_CHANGES => k_is)
    (case t_CHANGES' => refine' Sur.tu_CHANGES ?xl; (case xl => k_is))
    (case g_PACKET_CALLS => k_is)
    (case t_PACKET_CALLS' => refine' Sur.tu_PACKET_CALLS ?xl; (case xl => k_is))
    (case b_all => k_is)
    (case b_any => k_is)
    (case b_len => k_is)
    (case b_list => k_is)
    (case b_range => k_is)
    (case b_sum => k_is)
    (case f_split_calls' => refine' Sur.at_split_calls KX G ?xa ?xl ?xc ?xk; (case xa => k_is); (case xl => k_is); (case xc => k_is); (case xk => k_is))
    (case f_is_site_number' => refine' Sur.at_is_site_number KX G ?xa ?xl ?xc ?xk; (case xa => k_is); (case xl => k_is); (case xc => k_is); (case xk => k_is))
    (case f_is_octet' => refine' Sur.at_is_octet KX G ?xa ?xl ?xc ?xk; (case xa => k_is); (case xl => k_is); (case xc => k_is); (case xk => k_is))
    (case f_is_payload' => refine' Sur.at_is_payload KX G ?xa ?xl ?xc ?xk; (case xa => k_is); (case xl => k_is); (case xc => k_is); (case xk => k_is))
    (case f_is_copy_number' => refine' Sur.at_is_copy_number KX G ?xa ?xl ?xc ?xk; (case xa => k_is); (case xl => k_is); (case xc => k_is); (case xk => k_is))
    (case f_is_message_number' => refine' Sur.at_is_message_number KX G ?xa ?xl ?xc ?xk; (case xa => k_is); (case xl => k_is); (case xc => k_is); (case xk => k_is))
    (case f_is_message_count' => refine' Sur.at_is_message_count KX G ?xa ?xl ?xc ?xk; (case xa => k_is); (case xl => k_is); (case xc => k_is); (case xk => k_is))
    (case f_checksum_of' => refine' Sur.at_checksum_of KX G ?xa ?xl ?xc ?xk; (case xa => k_is); (case xl => k_is); (case xc => k_is); (case xk => k_is))
    (case f_octets_of' => refine' Sur.at_octets_of KX G ?xa ?xl ?xc ?xk; (case xa => k_is); (case xl => k_is); (case xc => k_is); (case xk => k_is))
    (case f_has_valid_fields' => refine' Sur.at_has_valid_fields KX G ?xa ?xl ?xc ?xk; (case xa => k_is); (case xl => k_is); (case xc => k_is); (case xk => k_is))
    (case f_packet_of' => refine' Sur.at_packet_of KX G ?xa ?xl ?xc ?xk; (case xa => k_is); (case xl => k_is); (case xc => k_is); (case xk => k_is))
    (case f_put_on_wires' => refine' Sur.at_put_on_wires KX G ?xa ?xl ?xc ?xk; (case xa => k_is); (case xl => k_is); (case xc => k_is); (case xk => k_is))
    (case f_transmit_durable' => refine' Sur.at_transmit_durable KX G ?xa ?xl ?xc ?xk; (case xa => k_is); (case xl => k_is); (case xc => k_is); (case xk => k_is))
    (case f_has_message' => refine' Sur.at_has_message KX G ?xa ?xl ?xc ?xk; (case xa => k_is); (case xl => k_is); (case xc => k_is); (case xk => k_is))
    (case f_take_acknowledgement' => refine' Sur.at_take_acknowledgement KX G ?xa ?xl ?xc ?xk; (case xa => k_is); (case xl => k_is); (case xc => k_is); (case xk => k_is))
    (case f_take_message' => refine' Sur.at_take_message KX G ?xa ?xl ?xc ?xk; (case xa => k_is); (case xl => k_is); (case xc => k_is); (case xk => k_is))
    (case f_deliver_packet' => refine' Sur.at_deliver_packet KX G ?xa ?xl ?xc ?xk; (case xa => k_is); (case xl => k_is); (case xc => k_is); (case xk => k_is))
    (case f_deliver_all' => refine' Sur.at_deliver_all KX G ?xa ?xl ?xc ?xk; (case xa => k_is); (case xl => k_is); (case xc => k_is); (case xk => k_is))
    (case f_sync_all' => refine' Sur.at_sync_all KX G ?xa ?xl ?xc ?xk; (case xa => k_is); (case xl => k_is); (case xc => k_is); (case xk => k_is))
    (case f_perform_exchange' => refine' Sur.at_perform_exchange KX G ?xa ?xl ?xc ?xk; (case xa => k_is); (case xl => k_is); (case xc => k_is); (case xk => k_is))
    (case f_sites_refusal' => refine' Sur.at_sites_refusal KX G ?xa ?xl ?xc ?xk; (case xa => k_is); (case xl => k_is); (case xc => k_is); (case xk => k_is))
    (case f_pair_refusal' => refine' Sur.at_pair_refusal KX G ?xa ?xl ?xc ?xk; (case xa => k_is); (case xl => k_is); (case xc => k_is); (case xk => k_is))
    (case f_packet_refusal' => refine' Sur.at_packet_refusal KX G ?xa ?xl ?xc ?xk; (case xa => k_is); (case xl => k_is); (case xc => k_is); (case xk => k_is))
    (case f_create_sites' => refine' Sur.at_create_sites KX G ?xa ?xl ?xc ?xk; (case xa => k_is); (case xl => k_is); (case xc => k_is); (case xk => k_is))
    (case f_post' => refine' Sur.at_post KX G ?xa ?xl ?xc ?xk; (case xa => k_is); (case xl => k_is); (case xc => k_is); (case xk => k_is))
    (case f_sync' => refine' Sur.at_sync KX G ?xa ?xl ?xc ?xk; (case xa => k_is); (case xl => k_is); (case xc => k_is); (case xk => k_is))
    (case f_crash' => refine' Sur.at_crash KX G ?xa ?xl ?xc ?xk; (case xa => k_is); (case xl => k_is); (case xc => k_is); (case xk => k_is))
    (case f_at_risk' => refine' Sur.at_at_risk KX G ?xa ?xl ?xc ?xk; (case xa => k_is); (case xl => k_is); (case xc => k_is); (case xk => k_is))
    (case f_transmit' => refine' Sur.at_transmit KX G ?xa ?xl ?xc ?xk; (case xa => k_is); (case xl => k_is); (case xc => k_is); (case xk => k_is))
    (case f_deliver' => refine' Sur.at_deliver KX G ?xa ?xl ?xc ?xk; (case xa => k_is); (case xl => k_is); (case xc => k_is); (case xk => k_is))
    (case f_lose' => refine' Sur.at_lose KX G ?xa ?xl ?xc ?xk; (case xa => k_is); (case xl => k_is); (case xc => k_is); (case xk => k_is))
    (case f_duplicate' => refine' Sur.at_duplicate KX G ?xa ?xl ?xc ?xk; (case xa => k_is); (case xl => k_is); (case xc => k_is); (case xk => k_is))
    (case f_damage' => refine' Sur.at_damage KX G ?xa ?xl ?xc ?xk; (case xa => k_is); (case xl => k_is); (case xc => k_is); (case xk => k_is))
    (case f_exchange' => refine' Sur.at_exchange KX G ?xa ?xl ?xc ?xk; (case xa => k_is); (case xl => k_is); (case xc => k_is); (case xk => k_is))
    (case f_answer_change' => refine' Sur.at_answer_change KX G ?xa ?xl ?xc ?xk; (case xa => k_is); (case xl => k_is); (case xc => k_is); (case xk => k_is))
    (case f_received' => refine' Sur.at_received KX G ?xa ?xl ?xc ?xk; (case xa => k_is); (case xl => k_is); (case xc => k_is); (case xk => k_is))
    (case f_link_state' => refine' Sur.at_link_state KX G ?xa ?xl ?xc ?xk; (case xa => k_is); (case xl => k_is); (case xc => k_is); (case xk => k_is))
    (case f_unsettled' => refine' Sur.at_unsettled KX G ?xa ?xl ?xc ?xk; (case xa => k_is); (case xl => k_is); (case xc => k_is); (case xk => k_is))
    (case f_listed_fields' => refine' Sur.at_listed_fields KX G ?xa ?xl ?xc ?xk; (case xa => k_is); (case xl => k_is); (case xc => k_is); (case xk => k_is))
    (case f_list_packets' => refine' Sur.at_list_packets KX G ?xa ?xl ?xc ?xk; (case xa => k_is); (case xl => k_is); (case xc => k_is); (case xk => k_is))
    (case f_packet_bytes' => refine' Sur.at_packet_bytes KX G ?xa ?xl ?xc ?xk; (case xa => k_is); (case xl => k_is); (case xc => k_is); (case xk => k_is))
    (case f_all_arrived' => refine' Sur.at_all_arrived KX G ?xa ?xl ?xc ?xk; (case xa => k_is); (case xl => k_is); (case xc => k_is); (case xk => k_is))
    (case f_all_durable' => refine' Sur.at_all_durable KX G ?xa ?xl ?xc ?xk; (case xa => k_is); (case xl => k_is); (case xc => k_is); (case xk => k_is))
    (case f_is_settled' => refine' Sur.at_is_settled KX G ?xa ?xl ?xc ?xk; (case xa => k_is); (case xl => k_is); (case xc => k_is); (case xk => k_is))
    (case f_totals' => refine' Sur.at_totals KX G ?xa ?xl ?xc ?xk; (case xa => k_is); (case xl => k_is); (case xc => k_is); (case xk => k_is))
    (case f_answer_look' => refine' Sur.at_answer_look KX G ?xa ?xl ?xc ?xk; (case xa => k_is); (case xl => k_is); (case xc => k_is); (case xk => k_is))
    (case f_write_packet' => refine' Sur.at_write_packet KX G ?xa ?xl ?xc ?xk; (case xa => k_is); (case xl => k_is); (case xc => k_is); (case xk => k_is))
    (case f_read_packet' => refine' Sur.at_read_packet KX G ?xa ?xl ?xc ?xk; (case xa => k_is); (case xl => k_is); (case xc => k_is); (case xk => k_is))
    (case f_answer_packet_call' => refine' Sur.at_answer_packet_call KX G ?xa ?xl ?xc ?xk; (case xa => k_is); (case xl => k_is); (case xc => k_is); (case xk => k_is))
    (case f_answer_call' => refine' Sur.at_answer_call KX G ?xa ?xl ?xc ?xk; (case xa => k_is); (case xl => k_is); (case xc => k_is); (case xk => k_is))
    (case ea => k_is)
    (case el => k_is)
    (case ec => k_is)
    (case ek => k_is)
  case S =>
    intro K H xs a hO hwi hask hx
    cases hx with
    | cons h1 h2 =>
      cases h2
      cases h1 with
      | lst hs ha =>
        have e := L2.ints_dw a.1 _ ha
        subst e
        exact ⟨_, a.1, rfl, hs, hask, fun H' p hp => .lst (L2.SqL.of hp) (L2.dw_ints _)⟩
