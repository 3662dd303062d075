/-
  Strings as lists of bytes: a conversion of read bytes, an append of a string's bytes to an own slice, where the first byte 0 stands. No program is named here.
-/
import Derived.Test.YtkdmdbojcdonpaaGreatDoorHeld
import Derived.Test.YtkdmdbojcdonpaaGreatDoorHdrMath
import Derived.Lib.AppendStr
import Derived.Lib.BytesEntry
import Derived.Laws.IdiomStrings
namespace Go.Proofs.YtkdmdbojcdonpaaGreatDoor
set_option maxRecDepth 5000
open Go.RowKit

def strB (l : List Nat) : ByteArray := ⟨(l.map UInt8.ofNat).toArray⟩
def strV (l : List Nat) : Value := .string (strB l)
def natsOf (s : ByteArray) : List Nat := s.data.toList.map UInt8.toNat
theorem natsOf_lt (s : ByteArray) : ∀ b ∈ natsOf s, b < 256 := by
  intro b hb
  obtain ⟨x, _, rfl⟩ := List.mem_map.1 hb
  exact x.toNat_lt
theorem strB_natsOf (s : ByteArray) : strB (natsOf s) = s := by
  obtain ⟨⟨l⟩⟩ := s
  unfold strB natsOf
  rw [List.map_map]
  have : l.map (UInt8.ofNat ∘ UInt8.toNat) = l := by
    conv => rhs; rw [← List.map_id l]
    exact List.map_congr_left fun x _ => by simp
  show ByteArray.mk (l.map (UInt8.ofNat ∘ UInt8.toNat)).toArray = _
  rw [this]
theorem natsOf_length (s : ByteArray) : (natsOf s).length = s.size := by
  unfold natsOf
  rw [List.length_map]
  rfl
theorem strB_size (l : List Nat) : (strB l).size = l.length := by
  show (l.map UInt8.ofNat).toArray.size = _
  simp
theorem strCells_strB (l : List Nat) (h : ∀ b ∈ l, b < 256) : Lib.strCells (strB l) = u8s l := by
  unfold Lib.strCells strB u8s
  show ((l.map UInt8.ofNat).toArray.toList.map _) = _
  rw [List.map_map]
  refine List.map_congr_left fun x hx => ?_
  have := h x hx
  simp only [Function.comp, UInt8.toNat_ofNat', show x % 2 ^ 8 = x by omega]
theorem strV_nil : strV [] = .string ⟨#[]⟩ := rfl

section
variable {P : Program} {w : World}
/-! ### A conversion -/
theorem run_conv_str (src dst e : TypeId) (hs : P.underlying src = some (.slice e)) (he : P.underlying e = some (.int .u8)) (hd : P.underlying dst = some .string) (v : Value) (l : List Nat) (n : Nat) (hv : Rd w 1 v n (u8s l)) (hb : ∀ b ∈ l, b < 256) :
    (convert src dst v).run P w = .ok (strV l) w := by
  obtain ⟨hl, ao, cap, rfl, hn, hc, h0, hr⟩ := hv
  have hl' : l.length = n := by unfold u8s at hl; rw [List.length_map] at hl; omega
  rcases hr with rfl | ⟨b, off, rfl, hr⟩
  · obtain rfl : l = [] := List.eq_nil_of_length_eq_zero hl'
    cases ao with
    | none => rw [run_convert_bytes_string w src dst e none 0 cap hs he hd]; rfl
    | some a => exact run_convert_bytes_back w src dst e a cap [] hs he hd (fun j hj => absurd hj (Nat.not_lt_zero _))
  · have h1 := run_convert_bytes_back (P := P) w src dst e ⟨b, off, none⟩ cap (l.map UInt8.ofNat) hs he hd (fun j hj => by
      rw [List.length_map] at hj
      rw [Addr.add_lit]
      refine hr j _ ?_
      have hb' := hb l[j] (List.getElem_mem _)
      unfold u8s
      rw [List.getElem?_map, List.getElem?_eq_getElem hj, List.getElem_map, UInt8.toNat_ofNat', show l[j] % 2 ^ 8 = l[j] by omega]
      rfl)
    rw [List.length_map, hl'] at h1
    exact h1
theorem wpList_conv_str {ops : Array Oper} {rest : List Oper} {o : Oper} {ac : Act} {Q : Exit → Act → World → Prop} (hgd : o.guard = none) (src dst : TypeId) (x : Operand)
    (ho : o.op = .convert src dst x) (e : TypeId) (hs : P.underlying src = some (.slice e)) (he : P.underlying e = some (.int .u8)) (hd : P.underlying dst = some .string)
    (v : Value) (l : List Nat) (n : Nat) (hx : ac.eval x = v) (hv : Rd w 1 v n (u8s l)) (hb : ∀ b ∈ l, b < 256)
    (h : wpList P ops Q rest (ac.put o.dst (strV l)) w) : wpList P ops Q (o :: rest) ac w := by
  refine wpList_plain hgd fun K hK => ?_
  have hr := run_conv_str (P := P) src dst e hs he hd v l n hv hb
  unfold Oper.wp execOp
  simp only [ho, hx, hr, Sem.run_bind, Sem.run_pure, Result.andThen_ok]
  exact hK _ _ h
/-! ### An append -/
theorem run_app_str (t u ty e : TypeId) (i : TypeInfo) (z : Value) (ht : P.underlying t = some (.slice e)) (hu : P.underlying u = some .string) (hi : P.info? e = some i) (hz : i.zero = some z)
    (hsize : i.size = 1) (hby : i.bytes = 1) (hzs : z.cells.size = 1)
    (v : Value) (n : Nat) (xs : List Value) (hown : Own w e 1 v n xs) (hn0 : 0 < n) (s : ByteArray) (h63 : n + s.size ≤ 1000000000) :
    ∃ ao cap w', (Builtin.append_ #[t, u] ty #[v, .string s]).run P w = .ok (.slice ao (n + s.size) cap) w' ∧ Own w' e 1 (.slice ao (n + s.size) cap) (n + s.size) (xs ++ Lib.strCells s) ∧ w.grownBy w' v.ownBlock ∧
      (Value.ownBlock (.slice ao (n + s.size) cap) = v.ownBlock ∨ Value.ownBlock (.slice ao (n + s.size) cap) = some w.heap.size) := by
  have hm : 1000000000 ≤ maxLen := by decide
  have hlen : (xs ++ Lib.strCells s).length = (n + s.size) * 1 := by rw [List.length_append, hown.1, Lib.strCells_length, Nat.add_mul, Nat.mul_one, Nat.mul_one]
  rcases hown.2 with ⟨rfl, rfl⟩ | ⟨g, off, cap, cur, rfl, hg, hnc, hcm, hcs, hcur⟩
  · omega
  · by_cases hroom : n + s.size ≤ cap
    · have hf := Lib.run_firstCells_string (P := P) w 1 s
      have hst := run_storeCells_at P g (off + n) e (Lib.strCells s) 0 cur w hg (by rw [Lib.strCells_length]; omega) (Lib.strCells_oneCell s)
      simp only [Nat.add_zero, Lib.strCells_length] at hst
      have hr : (Builtin.append_ #[t, u] ty #[.slice (some ⟨g, off, none⟩) n cap, .string s]).run P w =
          .ok (.slice (some ⟨g, off, none⟩) (n + s.size) cap) (w.setRow g (cur.toList.take (off + n) ++ Lib.strCells s ++ cur.toList.drop (off + n + s.size)).toArray) := by
        simp [Builtin.append_, run_underlying ht, run_underlying hu, sizeOf, typeInfo, hi, hsize, Builtin.lenOf, hroom, hf, Addr.add_lit, hst]
      refine ⟨_, _, _, hr, ⟨hlen, .inr ⟨g, off, cap, _, rfl, setRow_heap w g cur _ e _ hg, hroom, hcm, ?_, fun j u hu => ?_⟩⟩, ⟨rfl, rfl, rfl, by simp [World.setRow], fun k _ hk => setRow_other w g k _ (fun e => hk (by rw [e]; rfl))⟩, .inl rfl⟩
      · simp [Lib.strCells_length]; omega
      · have h1 := hown.1
        have h2 := Lib.strCells_length s
        simp only [List.getElem?_toArray]
        have ht : (cur.toList.take (off + n)).length = off + n := by simp; omega
        by_cases hj : j < xs.length
        · rw [List.getElem?_append_left hj] at hu
          rw [List.append_assoc, List.getElem?_append_left (by omega), List.getElem?_take_of_lt (by omega), Array.getElem?_toList]
          exact hcur j u hu
        · rw [List.getElem?_append_right (by omega)] at hu
          have hj2 := (List.getElem?_eq_some_iff.1 hu).1
          rw [List.append_assoc, List.getElem?_append_right (by omega), ht, List.getElem?_append_left (by omega), show off + j - (off + n) = j - xs.length by omega]
          exact hu
    · have holds : ∀ j u, xs[j]? = some u → w.cell? ((⟨g, off, none⟩ : Addr).add j) = some u := fun j u hu => by
        rw [Addr.add_lit, cell_of_row w g _ cur e (0, 0) hg]; exact hcur j u hu
      have hr := Lib.run_append_grow_string (P := P) w t u ty e i z ht hu hi hz ⟨g, off, none⟩ n cap xs (by rw [hsize]; exact hown.1) holds s (by omega) (by omega) (growslice_fits (by omega) (by rw [hby]; omega))
      have hge := grownCap_ge w (n + s.size) cap e
      have hcm2 : grownCap w (n + s.size) cap e ≤ maxLen := grownCap_le_maxLen w (n + s.size) cap e (by omega)
      refine ⟨_, _, _, hr, ⟨hlen, .inr ⟨w.heap.size, 0, _, _, rfl, heap_alloc_new w.drew _, hge, hcm2, ?_, fun j u hu => ?_⟩⟩, ⟨rfl, rfl, rfl, by simp, fun k hk _ => Below.heap_alloc w.drew _ k hk⟩, .inr rfl⟩
      · simp only [Array.size_append, List.size_toArray, size_zeroCells, hzs, hown.1, Lib.strCells_length]
        omega
      · have hj : j < (xs ++ Lib.strCells s).length := (List.getElem?_eq_some_iff.1 hu).1
        rw [Nat.zero_add, Array.getElem?_append_left (by simpa using hj), ← hu]
        simp
theorem wpList_app_str {w0 : World} {Rs : List Thing} {ops : Array Oper} {rest : List Oper} {o : Oper} {a : Act} {Q : Exit → Act → World → Prop} (hgd : o.guard = none) (s x : Operand) (t u : TypeId)
    (ho : o.op = .call { callee := .builtin .append, args := #[s, x], argTypes := #[t, u] })
    (e : TypeId) (i : TypeInfo) (z : Value) (ht : P.underlying t = some (.slice e)) (hu : P.underlying u = some .string) (hi : P.info? e = some i) (hz : i.zero = some z)
    (hsize : i.size = 1) (hby : i.bytes = 1) (hzs : z.cells.size = 1)
    (v : Value) (n : Nat) (xs : List Value) (hs : a.eval s = v) (hh : Held w0 w (ownT e 1 v n xs :: Rs)) (hn0 : 0 < n)
    (l : List Nat) (hx : a.eval x = strV l) (hl : ∀ b ∈ l, b < 256) (N : Nat) (hN : N = n + l.length) (h63 : N ≤ 1000000000)
    (h : ∀ ao cap w', Held w0 w' (ownT e 1 (.slice ao N cap) N (xs ++ u8s l) :: Rs) → wpList P ops Q rest (a.put o.dst (.slice ao N cap)) w') : wpList P ops Q (o :: rest) a w := by
  subst hN
  refine wpList_plain hgd fun K hK => ?_
  obtain ⟨ao, cap, w', hr, h2, h3, h4⟩ := run_app_str (P := P) t u o.type e i z ht hu hi hz hsize hby hzs v n xs hh.own hn0 (strB l) (by rw [strB_size]; exact h63)
  rw [strB_size] at hr h2 h4
  rw [strCells_strB l hl] at h2
  unfold Oper.wp execOp
  simp only [ho, resolve, invoke, builtin, Sem.run_bind, Sem.run_pure, Result.andThen_ok, List.map_toArray, List.map_cons, List.map_nil, hs, hx]
  rw [show strV l = .string (strB l) from rfl, hr]
  exact hK _ _ (h ao cap w' (hh.app h2 h3 h4))
end
/-! ### Where the first 0 stands -/
theorem indexByte_zero : ∀ (l : List Nat), (∀ b ∈ l, b < 256) → Lib.indexByte (l.map UInt8.ofNat) 0 = match zeroAt l with | some i => (i : Int) | none => -1
  | [], _ => rfl
  | b :: r, h => by
    have hb := h b (List.mem_cons_self ..)
    have ih := indexByte_zero r fun x hx => h x (List.mem_cons_of_mem _ hx)
    have hbb : (UInt8.ofNat b == 0) = decide (b = 0) := by
      by_cases h0 : b = 0
      · rw [h0]; rfl
      · rw [decide_eq_false h0, beq_eq_false_iff_ne]
        intro e
        have e2 := congrArg UInt8.toNat e
        rw [UInt8.toNat_ofNat', show b % 2 ^ 8 = b by omega] at e2
        exact h0 e2
    rw [List.map_cons, Lib.indexByte, zeroAt, hbb, ih]
    by_cases h0 : b = 0
    · rw [decide_eq_true h0, if_pos rfl, if_pos h0]; rfl
    · rw [decide_eq_false h0, if_neg (by decide), if_neg h0]
      cases zeroAt r with
      | none => rfl
      | some i =>
        show (if ((i : Int) == -1) = true then _ else _) = ((i + 1 : Nat) : Int)
        rw [if_neg (by rw [beq_iff_eq]; omega)]
        show (i : Int) + 1 = _
        omega
def zeroI (l : List Nat) : Int := match zeroAt l with | some i => (i : Int) | none => -1
theorem run_zero_str {P : Program} (l : List Nat) (h : ∀ b ∈ l, b < 256) (w : World) :
    (Extern.BytealgIndexByte.indexByte #[strV l, .int .u8 0]).run P w = .ok (.int .i64 (zeroI l)) w := by
  have h1 := Lib.run_indexByteString (P := P) (strB l) 0 w
  have h2 : (strB l).data.toList = l.map UInt8.ofNat := rfl
  have h0 : ((0 : Int).toNat.toUInt8) = 0 := rfl
  rw [h2, h0, indexByte_zero l h] at h1
  exact h1
theorem run_zero_bytes {P : Program} {w : World} (l : List Nat) (h : ∀ b ∈ l, b < 256) (v : Value) (n : Nat) (hv : Rd w 1 v n (u8s l)) :
    (Extern.BytealgIndexByte.indexByte #[v, .int .u8 0]).run P w = .ok (.int .i64 (zeroI l)) w := by
  obtain ⟨hl, ao, cap, rfl, hn, hc, h0, hr⟩ := hv
  have hl' : l.length = n := by unfold u8s at hl; rw [List.length_map] at hl; omega
  have hz : ((0 : Int).toNat.toUInt8) = 0 := rfl
  have hby : Lib.bytesOf (l.map fun (b : Nat) => (b : Int)) = l.map UInt8.ofNat := by
    unfold Lib.bytesOf
    rw [List.map_map]
    exact List.map_congr_left fun x _ => by simp
  have key : ∀ b off, (∀ j u, (u8s l)[j]? = some u → w.cell? ⟨b, off + j, none⟩ = some u) → (Extern.BytealgIndexByte.indexByte #[.slice (some ⟨b, off, none⟩) n cap, .int .u8 0]).run P w = .ok (.int .i64 (zeroI l)) w := fun b off hr => by
    have h1 := Lib.run_indexByteSlice (P := P) w b off n cap (l.map fun (b : Nat) => (b : Int)) (by rw [List.length_map]; exact hl') (fun i hi => by
      refine hr i _ ?_
      unfold u8s
      rw [List.getElem?_map, List.getD_eq_getElem?_getD, List.getElem?_map, List.getElem?_eq_getElem (by omega)]
      rfl) 0
    rw [hby, hz, indexByte_zero l h] at h1
    exact h1
  rcases hr with rfl | ⟨b, off, rfl, hr⟩
  · obtain rfl : l = [] := List.eq_nil_of_length_eq_zero hl'
    cases ao with
    | none => exact Lib.run_indexByteNil w 0 cap 0
    | some a =>
      have hsz : cap = cap := rfl
      obtain ⟨b, off, sp⟩ := a
      have h1 : (Extern.BytealgIndexByte.indexByte #[.slice (some ⟨b, off, sp⟩) 0 cap, .int .u8 0]).run P w = .ok (.int .i64 (-1)) w := by
        have hs := Lib.run_indexByteString (P := P) .empty 0 w
        exact hs
      exact h1
  · exact key b off hr
end Go.Proofs.YtkdmdbojcdonpaaGreatDoor
