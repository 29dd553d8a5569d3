import PyProof.Rows.All
import Wide.All
import OpenK.AllK
import Wide.FinOn
import HandS.Base
import HandS.Call
import HandS.List
import HandS.Comp
import HandS.Ends
import HandS.Dict
import HandS.Iter
import HandS.Text
import HandS.Words
import HandS.WordsList
import PyProof.ReprRoads
import HandS.EndBits
import HandS.IsInst
import HandS.StrMore
import HandS.TupAny
import HandS.Conv
import PyProof.ReprLen
import PyProof.StrLawsRepr
import HandS.TupMul
import PyProof.StrLaws
import HandS.SetKeys
import HandS.Strs
import KE.LtData
import PyProof.Rows.StrMul
import HandS.Style
import HandS.Zip
import HandS.Replace
import PySem.Challenge.RW_leadsever_k02_order_and_beginnings
set_option Elab.async false
set_option linter.all false
set_option maxRecDepth 100000
set_option maxHeartbeats 8000000
/-! Own rules, for any of the laws of this package. -/
namespace Ld
open PySem L2 PyProof.Rows
/-! ### heaps: all stands but the well -/
/-- all that is tracked stays, but what is at wa -/
def Sb (wa : Addr) (H H' : Hp) : Prop := ∀ b o, b ≠ wa → H b = some o → H' b = some o
theorem Sb.refl (wa : Addr) (H : Hp) : Sb wa H H := fun _ _ _ e => e
theorem Sb.trans {wa : Addr} {H1 H2 H3 : Hp} (a : Sb wa H1 H2) (b : Sb wa H2 H3) : Sb wa H1 H3 := fun c o n e => b c o n (a c o n e)
theorem Sb.of {wa : Addr} {H H' : Hp} (s : Same H H') : Sb wa H H' := fun b o _ e => s b o e
theorem Sb.put (wa : Addr) (H : Hp) (o : HO) : Sb wa H (upd H wa o) := fun b u n e => by
  rw [upd_ne n]
  exact e
theorem Same.new {H : Hp} {p : Addr} {o : HO} (h : H p = none) : Same H (upd H p o) := fun b u e => by
  rw [upd_ne (ne_of_none e h)]
  exact e
/-- the well: its two numbers -/
def wellKv (d m : Int) : List (Key × V) := [(Sum.inr "digits", .int d), (Sum.inr "mixed", .int m)]
def Well (H : Hp) (wa : Addr) : Prop := ∃ d m : Int, H wa = some (.dK (wellKv d m)) ∧ 0 ≤ d ∧ 0 ≤ m ∧ m < 2 ^ 40
theorem Well.same {H H' : Hp} {wa : Addr} (W : Well H wa) (s : Same H H') : Well H' wa := by
  obtain ⟨d, m, h, r⟩ := W
  exact ⟨d, m, s _ _ h, r⟩
/-- what the well is not -/
def NotWell : HO → Prop
  | .dK kvs => kvs.length ≠ 2
  | _ => True
theorem Well.ne {H : Hp} {wa b : Addr} {o : HO} (W : Well H wa) (e : H b = some o) (n : NotWell o) : b ≠ wa := by
  obtain ⟨d, m, h, _⟩ := W
  intro z
  subst z
  rw [h] at e
  cases e
  exact n rfl
theorem Well.lst {H : Hp} {wa b : Addr} {xs : List V} (W : Well H wa) (e : H b = some (.lst xs)) : b ≠ wa := W.ne e trivial
section
variable {K : PySem.W.Frag} {H H' : Hp} {wa a : Addr} {xs : List V}
theorem rd_keep {u : HO} (W : Well H wa) (s : Sb wa H H') (n : NotWell u) (h : Rd H a u) : Rd H' a u := by
  rcases h with h | ⟨o, h⟩
  · exact .inl (s a _ (W.ne h n) h)
  · exact .inr ⟨o, s a _ (W.ne h trivial) h⟩
theorem seqL (W : Well H wa) (s : Sb wa H H') (h : SqL K H a xs) : SqL K H' a xs := by
  rcases h with h | h
  · exact .inl (rd_keep W s trivial h)
  · exact .inr h
theorem seqT (W : Well H wa) (s : Sb wa H H') (h : SqT K H a xs) : SqT K H' a xs := by
  rcases h with h | h
  · exact .inl (rd_keep W s trivial h)
  · exact .inr h
theorem same_T (s : Same H H') (h : SqT K H a xs) : SqT K H' a xs := by
  rcases h with (h | ⟨o, h⟩) | h
  · exact .inl (.inl (s _ _ h))
  · exact .inl (.inr ⟨o, s _ _ h⟩)
  · exact .inr h
end
/-! ### data that stays -/
section
variable {K : PySem.W.Frag} {H H' : Hp}
mutual
theorem dp_mono (hL : ∀ a xs, SqL K H a xs → SqL K H' a xs) (hT : ∀ a xs, SqT K H a xs → SqT K H' a xs) : ∀ (d : PyData) (v : V), Dp K H v d → Dp K H' v d
  | .none, _, h => by cases h; exact .non
  | .bool _, _, h => by cases h; exact .bl _
  | .int _, _, h => by cases h; exact .int _
  | .str _, _, h => by cases h; exact .str _
  | .list ds, _, h => by
    cases h with
    | lst a b => exact .lst (hL _ _ a) (dpAll_mono hL hT ds _ b)
  | .tuple ds, _, h => by
    cases h with
    | tup a b => exact .tup (hT _ _ a) (dpAll_mono hL hT ds _ b)
  | .dict _, _, h => by cases h
theorem dpAll_mono (hL : ∀ a xs, SqL K H a xs → SqL K H' a xs) (hT : ∀ a xs, SqT K H a xs → SqT K H' a xs) : ∀ (ds : List PyData) (vs : List V), DpAll K H vs ds → DpAll K H' vs ds
  | [], _, h => by cases h; exact .nil
  | d :: ds, _, h => by
    cases h with
    | cons a b => exact .cons (dp_mono hL hT d _ a) (dpAll_mono hL hT ds _ b)
end
theorem dp_same {v : V} {d : PyData} (s : Same H H') (h : Dp K H v d) : Dp K H' v d := dp_mono (fun _ _ q => s.seq q) (fun _ _ q => same_T s q) d v h
theorem dp_sb {wa : Addr} {v : V} {d : PyData} (W : Well H wa) (s : Sb wa H H') (h : Dp K H v d) : Dp K H' v d := dp_mono (fun _ _ q => seqL W s q) (fun _ _ q => seqT W s q) d v h
theorem dp_strs : ∀ ws : List Str, DpAll K H (ws.map V.str) (ws.map PyData.str)
  | [] => .nil
  | w :: ws => .cons (.str w) (dp_strs ws)
theorem dp_bools : ∀ ws : List Bool, DpAll K H (ws.map V.bl) (ws.map PyData.bool)
  | [] => .nil
  | w :: ws => .cons (.bl w) (dp_bools ws)
theorem dp_append : ∀ {vs ws : List V} {ds es : List PyData}, DpAll K H vs ds → DpAll K H ws es → DpAll K H (vs ++ ws) (ds ++ es)
  | [], _, _, _, .nil, h => h
  | _ :: _, _, _, _, .cons a b, h => .cons a (dp_append b h)
end
/-! ### numbers of any size that a script may give -/
section
variable {X : Cx}
def CMulB (i j : Int) : Prop := Builtin.Int.intBits i + Builtin.Int.intBits j ≤ 2 ^ 27
def CPowB (i j : Int) : Prop := 0 ≤ j ∧ (Builtin.Int.intBits i : Int) * j ≤ 2 ^ 27
theorem mulB_ok {i j : Int} (h : CMulB i j) : IntMulOk i j := by
  intro z
  have z2 := (Bool.and_eq_true_iff.mp z).2
  have z3 := of_decide_eq_true (show decide (((Builtin.Int.intBits i + Builtin.Int.intBits j : Nat) : Int) > bitsLine) = true from z2)
  have e : bitsLine = 2 ^ 27 := rfl
  rw [e] at z3
  have h' : Builtin.Int.intBits i + Builtin.Int.intBits j ≤ 2 ^ 27 := h
  omega
theorem op_mulB : OpR X (binaryOp .Mult) (rI CMulB fun i j => .int (i * j)) := opI fun i j t u s Q E hc q => mul_int q (mulB_ok hc)
theorem op_powB : OpR X (binaryOp .Pow) (rI CPowB fun i j => .int (i ^ j.toNat)) := opI fun i j t u s Q E hc q => pow_int hc.1 hc.2 q
theorem bits_of {i : Int} {n : Nat} (h : i.natAbs < 2 ^ n) : Builtin.Int.intBits i ≤ n := by
  unfold Builtin.Int.intBits
  split
  · exact Nat.zero_le _
  · rename_i hz
    have hz : ¬ i = 0 := fun e => hz (by rw [e]; rfl)
    have h0 : i.natAbs ≠ 0 := fun e => hz (Int.natAbs_eq_zero.mp e)
    have := (Nat.log2_lt h0).mpr h
    omega
theorem of_bits {i : Int} {n : Nat} (h : Builtin.Int.intBits i ≤ n) : i.natAbs < 2 ^ n := by
  unfold Builtin.Int.intBits at h
  by_cases hz : i = 0
  · subst hz
    exact Nat.two_pow_pos n
  · rw [if_neg (by simpa using hz)] at h
    exact (Nat.log2_lt (fun e => hz (Int.natAbs_eq_zero.mp e))).mp (by omega)
end
end Ld
/-! Defs that need to know that no repr runs around them. -/
namespace Ld
open PySem L2 PyProof.Rows
/-- the promise of a def, wherever no repr runs around -/
structure FnG (P : Program) (w : World) (K : PySem.W.Frag) (mg : Str → Option Value) (base : Heap) (k : Nat) (f : Addr) (fd : FuncData) (ps : List Str) (sp : Sp) : Prop where
  long : ∀ vs H Q E, sp vs H Q E → vs.length = ps.length
  goes : ∀ (A : Around) (outer : List Env) (s : Shared) (H : Hp) (args : Args) (us : List Value) (vs : List V) (Q : VK) (E : XK), A.guards = some [] → Room k A → Env0 P w K mg base A outer s H →
    BindsTo s fd args (ps.zip us) → Vals vs us → sp vs H Q E → codeAny (model P w) A (.call (.ref f) args) (CR CX0 outer P w H s Q E) s
section
variable {P : Program} {w : World} {K : PySem.W.Frag} {mg : Str → Option Value} {base : Heap} {k : Nat} {f : Addr} {fd : FuncData} {ps : List Str} {sp : Sp}
theorem FnG.of (F : FnOk P w K mg base CX0 k f fd ps sp) : FnG P w K mg base k f fd ps sp := ⟨F.len, fun A outer s H args us vs Q E _ => F.run A outer s H args us vs Q E⟩
/-- what a body leaves is what the call leaves -/
theorem ends_of {X : Cx} {pins : List (Addr × Obj)} {s' : Shared} {Q : VK} (hx : X.ex = []) {σ' : L2.St} {H' : Hp} {v : V} {u : Value} (J : Inv X pins σ' H' s') (r : RelV v u) (q : Q v H') :
    CE X.outer X.prog X.w X.H_0 X.s_0 Q u s' := by
  have b := J.base
  rw [hx] at b
  exact ⟨v, H', J.os, J.bare, b, J.hok, r, q⟩
/-- a def of the text by its body -/
theorem Fun.okG {x qual : Str} {st : Stmt} {N : List Str} (F : Fun K x qual st f fd) (S : FnScope N ps (defScope st)) (long : ∀ vs H Q E, sp vs H Q E → vs.length = ps.length)
    (body : ∀ (cdv : Value) (A : Around) (outer : List Env) (s : Shared) (H : Hp) (vs : List V) (Q : VK) (E : XK), A.guards = some [] → Room k (A.deeper (envOfC qual (defScope st) s.heap.objs.size f cdv)) → sp vs H Q E →
      ∃ t, PSs (cxOf CX0 P w K mg base N qual (defScope st) f cdv A outer s H E).nox (defBody st) t ∧ t { nx := fun _ H' => Q .non H', rt := Q } (start N vs) H) : FnG P w K mg base (k + 1) f fd ps sp := by
  obtain ⟨oc, od, kV, doc, pm, an, cdv, ct, osl, rfl, lk, hcd⟩ := F.ex
  refine ⟨long, fun A outer s H args us vs Q E hg hr e0 hb r hsp => ?_⟩
  have up : ∀ b o, base.get? b = some o → s.heap.get? b = some o := fun b o e => (e0.bs b o e).1
  have KX : K.In s.heap := e0.mod.kin.keeps up
  have kinds : ∀ y ∈ ps.zip us, (defScope st).names.lookup y.1 = some .local ∨ ((defScope st).names.lookup y.1 = some .cell ∧ ((cellsFrom (s.heap.objs.size + 1) (defScope st).names []).lookup y.1).isSome = true) := by
    rintro ⟨n, v⟩ hy
    rcases S.par n (List.of_mem_zip hy).1 with q | q
    · exact Or.inl q
    · exact Or.inr ⟨q, PySem.W.cellsFrom_some _ _ _ (Or.inl q)⟩
  refine codeAny_call_function hr.depth (KX _ _ lk) rfl S.co S.gen rfl (PySem.W.codeRec_of KX hcd) (hb _ _ _ _ ?_)
  refine wpAny_newFunctionEnv_cells S.kind kinds fun env he s1 x => ?_
  subst he
  refine ⟨(e0.mod.nolimit.keeps up).keeps x.toInCall.keep, codeAny_func ?_⟩
  obtain ⟨t, ht, hq⟩ := body cdv A outer s H vs Q E hg (hr.deeper _) hsp
  refine wpAny_mono (ht.nox.run [] s1 (start N vs) H _ (inv_start S hr.hd e0 (long _ _ _ _ hsp) r x) hq) (fun fl s' hs => ?_) fun e s' hs => hs
  cases fl with
  | ret u =>
    obtain ⟨v, σ', H', J, r, q⟩ := hs
    exact ends_of rfl J r q
  | next =>
    obtain ⟨σ', H', J, q⟩ := hs
    exact ends_of (v := .non) rfl J rfl q
  | brk =>
    obtain ⟨_, _, _, q⟩ := hs
    exact q.elim
  | cont =>
    obtain ⟨_, _, _, q⟩ := hs
    exact q.elim
end
section
variable {X : Cx} {k : Nat} {f : Addr} {fd : FuncData} {ps : List Str} {sp : Sp} {x : Str} {p pos : Pos} {e : Expr} {es : List Expr} {t : TA}
/-- f(e, ..) of such a def -/
theorem pe_callG (F : FnG X.prog X.w X.K X.mg X.base k f fd ps sp) (hG : X.A.guards = some []) (hr : Room k X.A) (hg : Gl X x) (hm : X.mg x = some (.ref f)) (hk : PySem.W.keepIn X.K (.ref f) = true) (hb : Binds X.K fd ps [])
    (ha : PA X (e :: es) t) (hdb : (x == ("__debug__" : Str)) = false := by decide) (he : starEach (e :: es) X.env = (false, eval e X.env) :: starEach es X.env := by rfl)
    (hpl : (backTo pos (starEach es X.env)).any (·.1) = false := by rfl) : PE X (.Call (.Name x p) (e :: es) [] pos) (tCall sp [] E0 t) := by
  refine ⟨fun pins s σ H Q I h => wpAny_Call_Name_kw (ld_glob I hg hm ?_ hdb)⟩
  refine PySem.W.callWith_K (h₀ := X.base) I.ok.mod.kin hk (thn (ha.run pos pins s σ H _ I h) fun us s1 ⟨vs, H1, I1, r, q⟩ => ⟨I1.kIn, ?_⟩) he hpl
  have q : sp (vs ++ []) H1 Q E0 := q
  rw [List.append_nil] at q
  have hl : us.length = ps.length := by
    rw [← r.length]
    exact F.long _ _ _ _ q
  have hb1 := hb s1 us I1.kIn (by rw [List.append_nil]; exact hl)
  rw [List.append_nil] at hb1
  refine wpAny_call (codeAny_mono (F.goes X.A X.stack s1 H1 ⟨us, []⟩ us vs Q E0 hG hr I1.env0 hb1 r q) fun z s2 hq => ?_)
  match z, hq with
  | .ok (.ret u), hq => exact I1.after hq
  | .ok .next, hq => exact False.elim hq
  | .ok .brk, hq => exact False.elim hq
  | .ok .cont, hq => exact False.elim hq
  | .error e, hq => exact False.elim hq
/-- repr of data -/
def Rds (K : PySem.W.Frag) (P : Program) (w : World) (H : Hp) (v : V) (d : PyData) : Prop := ∀ h : Heap, HOk P w H h → K.In h → ∀ u, RelV v u → ∃ as, Reads h u d as ∧ (d.hasDict = true → ¬ sysModules ∈ as)
def Small (d : PyData) : Prop := d.showable = true ∧ d.depth ≤ 40 ∧ d.shown.length ≤ sizeLine
theorem call_repr (hG : X.A.guards = some []) (hu : X.A.units + 64 < cLine) : CallR X (.builtin "repr") (fun xs H Q => ∃ v d, xs = [v] ∧ Rds X.K X.prog X.w H v d ∧ Small d ∧ Q (.str d.shown) H) := by
  intro pins s σ H xs us Q I r h
  obtain ⟨v, d, rfl, hR, ⟨h1, h2, h3⟩, q⟩ := h
  obtain ⟨u, rfl, ru⟩ := vals1 r
  obtain ⟨as, rd, hs⟩ := hR s.heap I.hok I.kIn u ru
  have fin : ∀ h' t tk, (∀ b o, s.heap.get? b = some o → h'.get? b = some o) → EP X pins σ Q (.str d.shown t) { s with heap := h', toks := tk } := fun h' t tk kp =>
    ⟨.str d.shown, H, I.kept kp, ⟨t, rfl⟩, q⟩
  cases v with
  | ref a =>
    cases ru
    exact repr_of_reads' rd h1 hs hG (by omega) (fun _ _ e => e) fin h3
  | non =>
    cases ru
    cases rd
    simp only [PyData.shown] at fin
    exact P.repr_of_none (fin s.heap _ _ fun _ _ e => e)
  | bl b =>
    cases ru
    cases rd
    simp only [PyData.shown] at fin
    exact P.repr_of_bool (fin s.heap _ _ fun _ _ e => e)
  | int i =>
    obtain ⟨t, rfl⟩ := ru
    cases rd
    simp only [PyData.shown] at fin
    exact P.repr_of_int (by simpa [PyData.showable] using h1) (fin s.heap _ _ fun _ _ e => e)
  | str x =>
    obtain ⟨t, rfl⟩ := ru
    cases rd
    simp only [PyData.shown] at fin h3
    exact P.repr_of_str (fin s.heap _ _ fun _ _ e => e) h3
  | byt b =>
    obtain ⟨t, rfl⟩ := ru
    cases rd
  | flt b =>
    obtain ⟨t, rfl⟩ := ru
    cases rd
  | ty n =>
    cases ru
    cases rd
end
end Ld
/-! The end of a law whose defs are of the kind FnG; the script's bits are told. -/
namespace Ld
open PySem L2 PyProof.Rows
section
variable {P : Program} {w : World} {K : PySem.W.Frag} {mg mb : Str → Option Value} {k : Nat} {fa a : Addr} {fd : FuncData} {x : Str} {sp : Sp} {s : Shared} {vs : List Value} {ns : List Int}
/-- what stands behind the law's call -/
def Behind (s : Shared) (r : Result) (s' : Shared) : Prop := r = .ok (.ret (.bool true)) ∧ OldK s.heap s'.heap ∧ s'.os = s.os ∧ AllBare s'.gens
/-- with nothing tracked but (perhaps) the script, locked -/
structure Quiet (P : Program) (w : World) (K : PySem.W.Frag) (a : Addr) (H : Hp) (s : Shared) : Prop where
  ok : HOk P w H s.heap
  one : ∀ b o, H b = some o → b = a ∧ K.lookup a = none ∧ ∃ ob xs, o = .frz ob (.lst xs) ∧ ∃ its n, ob.data = .seq its n
theorem law_goes {H : Hp} (KX : K.In s.heap) (hns : s.heap.Ns mainGlobals mg) (hb : s.heap.Ns builtinsNs mb) (hbb : ∀ x : Str, x ≠ "__name__" → mb x = bootBuiltins x) (hlim : s.heap.NoLimit) (hg : s.gens = #[])
    (q : Quiet P w K a H s) (hr : Room k callerA) (F : ∀ base : Heap, K.In base → base.Ns mainGlobals mg → FnG P w K mg base k fa fd [x] sp) (hbind : ∀ (s : Shared) (u : Value), BindsTo s fd ⟨[u], []⟩ [(x, u)])
    (hsp : sp [.ref a] H (fun v _ => v = .bl true) E0) : codeAny (model P w) callerA (.call (.ref fa) ⟨[.ref a], []⟩) (Behind s) s := by
  have free : ∀ {b : Addr} {o : Obj}, s.heap.get? b = some o → (∀ its n, o.data ≠ .seq its n) → H b = none := fun {b o} e d => by
    cases z : H b with
    | none => rfl
    | some u =>
      obtain ⟨rfl, _, ob, xs, rfl, its, n, hd⟩ := q.one b u z
      obtain ⟨e2, _⟩ := q.ok b _ z
      rw [e] at e2
      cases e2
      exact absurd hd (d its n)
  have nsb : ∀ {b : Addr} {m : Str → Option Value}, s.heap.Ns b m → (hidT s.heap H).Ns b m := fun {b m} ⟨o, es, ep, e, d, r⟩ =>
    ⟨o, es, ep, hidT_get e (free e fun its n z => by rw [d] at z; cases z), d, r⟩
  have Kb : K.In (hidT s.heap H) := fun b o e => hidT_get (KX b o e) (by
    cases z : H b with
    | none => rfl
    | some u =>
      obtain ⟨rfl, hk, _⟩ := q.one b u z
      rw [hk] at e
      cases e)
  have md : Mod K mg (hidT s.heap H) := ⟨Kb, nsb hns, ⟨mb, nsb hb, hbb⟩, let ⟨mc, h1, h2⟩ := hlim; ⟨mc, nsb h1, h2⟩⟩
  have none_in : ∀ b : Addr, ¬ b ∈ ([] : List Addr) := fun b z => nomatch z
  have e0 : Env0 P w K mg (hidT s.heap H) callerA [] s H := ⟨rfl, md, fun b o e => of_hidT e, Nat.le_of_eq (hidT_size _ _), trivial, fun b hb => absurd hb (none_in b), q.ok, .of_eq hg⟩
  refine codeAny_mono ((F _ Kb (nsb hns)).goes callerA [] s H ⟨[.ref a], []⟩ [.ref a] [.ref a] _ E0 rfl hr e0 (hbind s (.ref a)) (.cons rfl .nil) hsp) fun r s' h => ?_
  match r, h with
  | .error e, h => exact False.elim h
  | .ok .next, h => exact False.elim h
  | .ok .brk, h => exact False.elim h
  | .ok .cont, h => exact False.elim h
  | .ok (.ret u), h =>
    obtain ⟨v, H', os, bare, un, ok', rv, (rfl : v = .bl true)⟩ := h
    cases (show u = Value.bool true from rv)
    refine ⟨rfl, OldK.of_keep fun b o e => ?_, os, bare⟩
    cases z : H b with
    | none => exact un.keep b o e z (none_in b) (none_in b)
    | some u =>
      obtain ⟨_, _, ob, xs, rfl, _⟩ := q.one b u z
      obtain ⟨e1, _⟩ := q.ok b _ z
      obtain ⟨e2, _⟩ := ok' b _ (un.frzs b ob _ z)
      rw [e] at e1
      cases e1
      exact e2
theorem ints_vals : ∀ {vs : List Value} {ns : List Int}, IntsAre vs ns → Vals (ns.map V.int) vs
  | _, _, .nil => .nil
  | _, _, .cons n t h => .cons ⟨t, rfl⟩ (ints_vals h)
theorem law_goes_any (KX : K.In s.heap) (hns : s.heap.Ns mainGlobals mg) (hb : s.heap.Ns builtinsNs mb) (hbb : ∀ x : Str, x ≠ "__name__" → mb x = bootBuiltins x) (hlim : s.heap.NoLimit) (hg : s.gens = #[])
    (ha : s.heap.get? a = some { cls := .type "list", data := .seq vs.toArray }) (hi : IntsAre vs ns) (hl : ns.length ≤ sizeLine) (hr : Room k callerA)
    (F : ∀ base : Heap, K.In base → base.Ns mainGlobals mg → FnG P w K mg base k fa fd [x] sp) (hbind : ∀ (s : Shared) (u : Value), BindsTo s fd ⟨[u], []⟩ [(x, u)])
    (hsp : ∀ H : Hp, SqL K H a (ns.map V.int) → sp [.ref a] H (fun v _ => v = .bl true) E0) : codeAny (model P w) callerA (.call (.ref fa) ⟨[.ref a], []⟩) (Behind s) s := by
  have rv := ints_vals hi
  cases hk : K.lookup a with
  | some o =>
    have e := KX a o hk
    rw [ha] at e
    cases e
    have sq : SqL K (fun _ => none) a (ns.map V.int) := .inr ⟨_, vs.toArray, _, hk, rfl, rfl, rfl, by rw [List.size_toArray, hi.length]; exact hl, by simpa using rv⟩
    refine law_goes KX hns hb hbb hlim hg ⟨fun b u z => ?_, fun b u z => ?_⟩ hr F hbind (hsp _ sq)
    · exact absurd (show (none : Option HO) = some u from z) (by simp)
    · exact absurd (show (none : Option HO) = some u from z) (by simp)
  | none =>
    have get : ∀ b u, (fun b => if b = a then some (HO.frz { cls := .type "list", data := .seq vs.toArray } (.lst (ns.map V.int))) else none : Hp) b = some u → b = a ∧ u = .frz { cls := .type "list", data := .seq vs.toArray } (.lst (ns.map V.int)) := fun b u z => by
      have z : (if b = a then some (HO.frz { cls := .type "list", data := .seq vs.toArray } (.lst (ns.map V.int))) else none) = some u := z
      by_cases h : b = a
      · rw [if_pos h] at z
        exact ⟨h, (Option.some.inj z).symm⟩
      · rw [if_neg h] at z
        cases z
    refine law_goes (H := fun b => if b = a then some (.frz { cls := .type "list", data := .seq vs.toArray } (.lst (ns.map V.int))) else none) KX hns hb hbb hlim hg ⟨fun b u z => ?_, fun b u z => ?_⟩ hr F hbind (hsp _ (.inl (.inr ⟨_, if_pos rfl⟩)))
    · obtain ⟨rfl, rfl⟩ := get b u z
      exact ⟨ha, by rw [List.length_map]; exact hl, vs, _, rv, ha⟩
    · obtain ⟨rfl, rfl⟩ := get b u z
      exact ⟨rfl, hk, _, _, rfl, _, _, rfl⟩
end
/-- what k_head leaves open -/
theorem walk_G {l : PySem.W.OpenLaw} {n k : Nat} {q : Program} {loose : List Str} {XP : (Str → Option Value) → Heap → Prop} {YP : World → Heap → Prop} {d : DefRec} {K : Params → PySem.W.Frag} {sp : World → Sp} {x : Str}
    (hn : l.most = some n) (hn2 : n ≤ sizeLine) (hdf : d.params.defaults = []) (hr : Room k callerA) (hY : ∀ (w : World) (h : Heap), YP w h → (K w.params).In h)
    (F : ∀ (w : World) (mg : Str → Option Value) (fa : Addr) (h : Heap), (K w.params).In h → h.Ns mainGlobals mg → mg d.name = some (.ref fa) → ∃ fd : FuncData, (∀ (s : Shared) (u : Value), BindsTo s fd ⟨[u], []⟩ [(x, u)]) ∧
      ∀ base : Heap, (K w.params).In base → base.Ns mainGlobals mg → FnG l.prog w (K w.params) mg base k fa fd [x] (sp w))
    (hsp : ∀ (w : World) (H : Hp) (a : Addr) (ns : List Int), ns.length ≤ n → (∀ z ∈ ns, Builtin.Int.intBits z ≤ 1048576) → SqL (K w.params) H a (ns.map V.int) → sp w [.ref a] H (fun v _ => v = .bl true) E0) :
    PySem.W.WalkO q loose XP YP l.row.toRowW d [] (fun f vs => PySem.call f vs) := by
  refine Att.attach_callB hn hdf fun w s₀ s₁ mg mb fa o pm cd doc a vs ns G Y ho hd hcd hmg hobj hints hlen hbits hg => ?_
  have KX := hY w _ Y
  obtain ⟨fd, hb, hF⟩ := F w mg fa _ KX G.T.g hmg
  exact law_goes_any KX G.T.g G.T.b G.T.builtins G.T.nolimit hg hobj hints (Nat.le_trans hlen hn2) hr hF hb fun H hS => hsp w H a ns hlen hbits hS
end Ld
/-! Things that a law draws: data, with a small dict at most. -/
namespace Ld
open PySem L2 PyProof.Rows
/-- data without a dict, or a dict of at most one text -/
inductive Lf (K : PySem.W.Frag) (H : Hp) : V → PyData → Prop
  | dat {v : V} {d : PyData} : Dp K H v d → Lf K H v d
  | dct0 {a : Addr} : H a = some (.dK []) → Lf K H (.ref a) (.dict [])
  | dct1 {a : Addr} {x y : Str} : H a = some (.dK [(Sum.inr x, .str y)]) → Lf K H (.ref a) (.dict [(.str x, .str y)])
/-- such a one, or a tuple of words with such a one among them -/
inductive Th (K : PySem.W.Frag) (H : Hp) : V → PyData → Prop
  | lf {v : V} {d : PyData} : Lf K H v d → Th K H v d
  | tup {a : Addr} {ws us : List Str} {v : V} {d : PyData} : SqT K H a (ws.map V.str ++ v :: us.map V.str) → Lf K H v d → Th K H (.ref a) (.tuple (ws.map PyData.str ++ d :: us.map PyData.str))
section
variable {K : PySem.W.Frag} {H H' : Hp} {v : V} {d : PyData} {wa : Addr}
theorem Lf.same (s : Same H H') (h : Lf K H v d) : Lf K H' v d := by
  cases h with
  | dat h => exact .dat (dp_same s h)
  | dct0 h => exact .dct0 (s _ _ h)
  | dct1 h => exact .dct1 (s _ _ h)
theorem Th.same (s : Same H H') (h : Th K H v d) : Th K H' v d := by
  cases h with
  | lf h => exact .lf (h.same s)
  | tup a h => exact .tup (same_T s a) (h.same s)
theorem Lf.sb (W : Well H wa) (s : Sb wa H H') (h : Lf K H v d) : Lf K H' v d := by
  cases h with
  | dat h => exact .dat (dp_sb W s h)
  | dct0 h => exact .dct0 (s _ _ (W.ne h (by show (0 : Nat) ≠ 2; decide)) h)
  | dct1 h => exact .dct1 (s _ _ (W.ne h (by show (1 : Nat) ≠ 2; decide)) h)
theorem Th.sb (W : Well H wa) (s : Sb wa H H') (h : Th K H v d) : Th K H' v d := by
  cases h with
  | lf h => exact .lf (h.sb W s)
  | tup a h => exact .tup (seqT W s a) (h.sb W s)
end
/-! ### what repr needs of it -/
mutual
theorem dp_nodict {K : PySem.W.Frag} {H : Hp} : ∀ (d : PyData) (v : V), Dp K H v d → d.hasDict = false
  | .none, _, _ => rfl
  | .bool _, _, _ => rfl
  | .int _, _, _ => rfl
  | .str _, _, _ => rfl
  | .list ds, _, h => by
    cases h with
    | lst a b => simpa [PyData.hasDict] using dpAll_nodict ds _ b
  | .tuple ds, _, h => by
    cases h with
    | tup a b => simpa [PyData.hasDict] using dpAll_nodict ds _ b
  | .dict _, _, h => by cases h
theorem dpAll_nodict {K : PySem.W.Frag} {H : Hp} : ∀ (ds : List PyData) (vs : List V), DpAll K H vs ds → PyData.hasDictAll ds = false
  | [], _, _ => rfl
  | d :: ds, _, h => by
    cases h with
    | cons a b => simp [PyData.hasDictAll, dp_nodict d _ a, dpAll_nodict ds _ b]
end
section
variable {K : PySem.W.Frag} {P : Program} {w : World} {H : Hp} {h : Heap}
mutual
theorem dp_reads (ok : HOk P w H h) (kin : K.In h) : ∀ (d : PyData) (v : V) (u : Value), Dp K H v d → RelV v u → ∃ as, Reads h u d as
  | .none, _, _, z, r => by cases z; cases r; exact ⟨_, .none⟩
  | .bool b, _, _, z, r => by cases z; cases r; exact ⟨_, .bool b⟩
  | .int i, _, _, z, r => by cases z; obtain ⟨t, rfl⟩ := r; exact ⟨_, .int i t⟩
  | .str x, _, _, z, r => by cases z; obtain ⟨t, rfl⟩ := r; exact ⟨_, .str x t⟩
  | .list ds, _, _, z, r => by
    cases z with
    | lst hs ha =>
      cases r
      rcases hs with hs | ⟨o, its, n, hk, hc, hd, hs, hz, rv⟩
      · obtain ⟨z, its, n, rv, e⟩ := hs.ok ok
        obtain ⟨as, hr⟩ := dpAll_reads ok kin ds _ its ha rv
        exact ⟨_, .list e rfl rfl hr⟩
      · obtain ⟨as, hr⟩ := dpAll_reads ok kin ds _ its.toList ha rv
        exact ⟨_, .list (kin _ o hk) hc hs hr⟩
  | .tuple ds, _, _, z, r => by
    cases z with
    | tup hs ha =>
      cases r
      rcases hs with hs | ⟨o, its, n, hk, hc, hs, hz, rv⟩
      · obtain ⟨z, its, rv, o, e, c, n, dt⟩ := hs.ok ok
        obtain ⟨as, hr⟩ := dpAll_reads ok kin ds _ its ha rv
        exact ⟨_, .tuple e c dt hr⟩
      · obtain ⟨as, hr⟩ := dpAll_reads ok kin ds _ its.toList ha rv
        exact ⟨_, .tuple (kin _ o hk) hc hs hr⟩
  | .dict _, _, _, z, _ => by cases z
theorem dpAll_reads (ok : HOk P w H h) (kin : K.In h) : ∀ (ds : List PyData) (vs : List V) (us : List Value), DpAll K H vs ds → Vals vs us → ∃ as, ReadsAll h us ds as
  | [], _, _, z, r => by cases z; cases r; exact ⟨_, .nil⟩
  | d :: ds, _, _, z, r => by
    cases z with
    | cons h1 h2 =>
      cases r with
      | cons r1 r2 =>
        obtain ⟨as, q1⟩ := dp_reads ok kin d _ _ h1 r1
        obtain ⟨bs, q2⟩ := dpAll_reads ok kin ds _ _ h2 r2
        exact ⟨_, .cons q1 q2⟩
end
theorem reads_strs : ∀ (ws : List Str) (us : List Value), Vals (ws.map V.str) us → ReadsAll h us (ws.map PyData.str) []
  | [], _, r => by cases r; exact .nil
  | w :: ws, _, r => by
    cases r with
    | cons r1 r2 =>
      obtain ⟨t, rfl⟩ := r1
      exact .cons (as := []) (bs := []) (.str w t) (reads_strs ws _ r2)
theorem readsAll_append : ∀ {us vs : List Value} {ds es : List PyData} {as bs : List Addr}, ReadsAll h us ds as → ReadsAll h vs es bs → ReadsAll h (us ++ vs) (ds ++ es) (as ++ bs)
  | _, _, _, _, _, _, .nil, r => r
  | _, _, _, _, _, bs, .cons (as := as) (bs := cs) a b, r => by
    rw [List.append_assoc]
    exact .cons a (readsAll_append b r)
theorem Lf.rds {v : V} {d : PyData} (z : Lf K H v d) : Rds K P w H v d := fun h ok kin u r => by
  cases z with
  | dat z =>
    obtain ⟨as, q⟩ := dp_reads ok kin d v u z r
    exact ⟨as, q, fun e => by rw [dp_nodict d v z] at e; cases e⟩
  | @dct0 a z =>
    cases r
    obtain ⟨_, hm, vs, kv, o, es, ep, e1, e2, e3, _, e4, _⟩ := dk_of ok z
    cases kv
    have e5 : es.toList = [] := by
      cases hh : es.toList with
      | nil => rfl
      | cons x y => rw [hh] at e4; cases e4
    refine ⟨_, .dict (kvs := []) (as := []) (bs := []) e1 e2.1 e3 (by rw [e5]; exact .nil) (by rw [e5]; exact .nil), fun _ hin => ?_⟩
    rcases List.mem_cons.mp hin with q | q
    · rw [← q] at hm
      exact absurd hm (by decide)
    · cases q
  | @dct1 a x y z =>
    cases r
    obtain ⟨_, hm, vs, kv, o, es, ep, e1, e2, e3, _, e4, _⟩ := dk_of ok z
    cases kv with
    | @cons _ kv1 _ _ q kv2 =>
      cases kv2
      obtain ⟨q1, q2⟩ := q
      obtain ⟨k1, v1⟩ := kv1
      cases q1
      obtain ⟨t, (rfl : v1 = _)⟩ := q2
      cases hh : es.toList with
      | nil => rw [hh] at e4; cases e4
      | cons x1 x2 =>
        rw [hh] at e4
        cases e4 with
        | cons g1 g2 g3 =>
          cases g3
          have g4 : ∃ t', x1.key = .str x t' := by
            rcases keyIs_shape (show keyIs (.inr x) x1.key = true from g1) with ⟨i, t', z1, _⟩ | ⟨y', t', z1, z2⟩
            · cases z1
            · cases z1
              exact ⟨t', z2⟩
          obtain ⟨t', g4⟩ := g4
          refine ⟨_, .dict (kvs := [(.str x, .str y)]) (as := []) (bs := []) e1 e2.1 e3 ?_ ?_, fun _ hin => ?_⟩
          · rw [hh]
            show ReadsAll h [x1.key] [PyData.str x] []
            rw [g4]
            exact .cons (as := []) (bs := []) (.str x t') .nil
          · rw [hh]
            show ReadsAll h [x1.val] [PyData.str y] []
            rw [g2]
            exact .cons (as := []) (bs := []) (.str y t) .nil
          · rcases List.mem_cons.mp hin with q | q
            · rw [← q] at hm
              exact absurd hm (by decide)
            · cases q
theorem reads_cut (ws us : List Str) {v : V} {l : List Value} (r : Vals (ws.map V.str ++ v :: us.map V.str) l) : ∃ l1 u l2, l = l1 ++ u :: l2 ∧ Vals (ws.map V.str) l1 ∧ RelV v u ∧ Vals (us.map V.str) l2 := by
  induction ws generalizing l with
  | nil =>
    cases r with
    | cons r1 r2 => exact ⟨[], _, _, rfl, .nil, r1, r2⟩
  | cons w ws ih =>
    cases r with
    | cons r1 r2 =>
      obtain ⟨l1, u, l2, e, a, b, c⟩ := ih r2
      exact ⟨_ :: l1, u, l2, by rw [e]; rfl, .cons r1 a, b, c⟩
theorem hasDict_strs : ∀ ws : List Str, PyData.hasDictAll (ws.map PyData.str) = false
  | [] => rfl
  | w :: ws => by simp [PyData.hasDictAll, PyData.hasDict, hasDict_strs ws]
theorem hasDict_append : ∀ ds es : List PyData, PyData.hasDictAll (ds ++ es) = (PyData.hasDictAll ds || PyData.hasDictAll es)
  | [], es => by simp [PyData.hasDictAll]
  | d :: ds, es => by
    rw [List.cons_append]
    simp only [PyData.hasDictAll, hasDict_append ds es, Bool.or_assoc]
theorem Th.rds {v : V} {d : PyData} (z : Th K H v d) : Rds K P w H v d := fun h ok kin u r => by
  cases z with
  | lf z => exact z.rds h ok kin u r
  | @tup a ws us v d ha hv =>
    cases r
    have core : ∀ l, Vals (ws.map V.str ++ v :: us.map V.str) l → ∃ as, ReadsAll h l (ws.map PyData.str ++ d :: us.map PyData.str) as ∧ (d.hasDict = true → ¬ sysModules ∈ as) := fun l rl => by
      obtain ⟨l1, u, l2, rfl, r1, r2, r3⟩ := reads_cut ws us rl
      obtain ⟨as, q1, q2⟩ := hv.rds (P := P) (w := w) h ok kin u r2
      refine ⟨[] ++ (as ++ []), readsAll_append (reads_strs ws l1 r1) (.cons q1 (reads_strs us l2 r3)), ?_⟩
      simpa using q2
    have hd : (PyData.tuple (ws.map PyData.str ++ d :: us.map PyData.str)).hasDict = d.hasDict := by
      show PyData.hasDictAll (ws.map PyData.str ++ d :: us.map PyData.str) = _
      rw [hasDict_append, hasDict_strs]
      simp [PyData.hasDictAll, hasDict_strs]
    rcases ha with hs | ⟨o, its, n, hk, hc, hs, hz, rv⟩
    · obtain ⟨z, its, rv, o, e, c, n, dt⟩ := hs.ok ok
      obtain ⟨as, q1, q2⟩ := core its rv
      exact ⟨as, .tuple e c dt q1, by rw [hd]; exact q2⟩
    · obtain ⟨as, q1, q2⟩ := core its.toList rv
      exact ⟨as, .tuple (kin _ o hk) hc hs q1, by rw [hd]; exact q2⟩
end
/-! ### its kind -/
def kindOf : PyData → String
  | .none => "NoneType"
  | .bool _ => "bool"
  | .int _ => "int"
  | .str _ => "str"
  | .list _ => "list"
  | .tuple _ => "tuple"
  | .dict _ => "dict"
section
variable {K : PySem.W.Frag} {H : Hp} {v : V} {d : PyData}
theorem Dp.ty (z : Dp K H v d) : TyX K H v (.type (kindOf d)) := by
  cases z with
  | non => exact .base .non
  | bl b => exact .base (.bl b)
  | int i => exact .base (.int i)
  | str x => exact .base (.str x)
  | lst hs _ =>
    rcases hs with (hs | ⟨o, hs⟩) | ⟨o, its, n, hk, hc, _⟩
    · exact .base (.lst hs)
    · exact .base (.frz hs)
    · exact .kList hk hc
  | tup hs _ =>
    rcases hs with (hs | ⟨o, hs⟩) | ⟨o, its, n, hk, hc, _⟩
    · exact .base (.tup hs)
    · exact .fTuple hs
    · exact .kTuple hk hc
theorem Lf.ty (z : Lf K H v d) : TyX K H v (.type (kindOf d)) := by
  cases z with
  | dat z => exact Dp.ty z
  | dct0 z => exact .base (.dK z)
  | dct1 z => exact .base (.dK z)
theorem Th.ty (z : Th K H v d) : TyX K H v (.type (kindOf d)) := by
  cases z with
  | lf z => exact z.ty
  | tup hs _ =>
    rcases hs with (hs | ⟨o, hs⟩) | ⟨o, its, n, hk, hc, _⟩
    · exact .base (.tup hs)
    · exact .fTuple hs
    · exact .kTuple hk hc
def isStrD : PyData → Bool
  | .str _ => true
  | _ => false
def isTupD : PyData → Bool
  | .tuple _ => true
  | _ => false
def isIntD : PyData → Bool
  | .int _ => true
  | .bool _ => true
  | _ => false
def isBoolD : PyData → Bool
  | .bool _ => true
  | _ => false
theorem kit_str (d : PyData) : PySem.W.kitOne K (.type (kindOf d)) (.type "str") = some (isStrD d) := by
  cases d <;> (simp only [kindOf, isStrD, isTupD, isIntD, isBoolD]; exact kit_ty (by decide +kernel))
theorem kit_tuple (d : PyData) : PySem.W.kitOne K (.type (kindOf d)) (.type "tuple") = some (isTupD d) := by
  cases d <;> (simp only [kindOf, isStrD, isTupD, isIntD, isBoolD]; exact kit_ty (by decide +kernel))
theorem kit_int (d : PyData) : PySem.W.kitOne K (.type (kindOf d)) (.type "int") = some (isIntD d) := by
  cases d <;> (simp only [kindOf, isStrD, isTupD, isIntD, isBoolD]; exact kit_ty (by decide +kernel))
theorem kit_bool (d : PyData) : PySem.W.kitOne K (.type (kindOf d)) (.type "bool") = some (isBoolD d) := by
  cases d <;> (simp only [kindOf, isStrD, isTupD, isIntD, isBoolD]; exact kit_ty (by decide +kernel))
/-- the items of a tuple, each with its data -/
def Its (K : PySem.W.Frag) (H : Hp) (xs : List V) (ds : List PyData) : Prop := xs.length = ds.length ∧ ∀ (i : Nat) (x : V), xs[i]? = some x → ∃ d, ds[i]? = some d ∧ Lf K H x d
theorem its_of : ∀ {xs : List V} {ds : List PyData}, DpAll K H xs ds → Its K H xs ds
  | _, _, .nil => ⟨rfl, fun i x e => by simp at e⟩
  | _, _, .cons a b => by
    obtain ⟨h1, h2⟩ := its_of b
    refine ⟨by simp [h1], fun i x e => ?_⟩
    cases i with
    | zero =>
      simp at e
      subst e
      exact ⟨_, rfl, .dat a⟩
    | succ i =>
      obtain ⟨d, q1, q2⟩ := h2 i x (by simpa using e)
      exact ⟨d, by simpa using q1, q2⟩
theorem Th.its {ds : List PyData} (z : Th K H v (.tuple ds)) : ∃ a xs, v = .ref a ∧ SqT K H a xs ∧ Its K H xs ds := by
  cases z with
  | lf z =>
    cases z with
    | dat z =>
      cases z with
      | tup hs ha => exact ⟨_, _, rfl, hs, its_of ha⟩
  | @tup a ws us v d ha hv =>
    refine ⟨_, _, rfl, ha, by simp, fun i x e => ?_⟩
    by_cases h1 : i < ws.length
    · rw [List.getElem?_append_left (by simpa using h1), List.getElem?_map] at e
      cases g : ws[i]? with
      | none => rw [g] at e; cases e
      | some y =>
        rw [g] at e
        cases e
        exact ⟨.str y, by rw [List.getElem?_append_left (by simpa using h1), List.getElem?_map, g]; rfl, .dat (.str y)⟩
    · rw [List.getElem?_append_right (by simpa using h1), List.length_map] at e
      cases h2 : i - ws.length with
      | zero =>
        rw [h2] at e
        cases e
        exact ⟨d, by rw [List.getElem?_append_right (by simpa using h1), List.length_map, h2]; rfl, hv⟩
      | succ j =>
        rw [h2] at e
        have e : (us.map V.str)[j]? = some x := by simpa using e
        rw [List.getElem?_map] at e
        cases g : us[j]? with
        | none => rw [g] at e; cases e
        | some y =>
          rw [g] at e
          cases e
          refine ⟨.str y, ?_, .dat (.str y)⟩
          rw [List.getElem?_append_right (by simpa using h1), List.length_map, h2]
          show (us.map PyData.str)[j]? = some (PyData.str y)
          rw [List.getElem?_map, g]
          rfl
end
end Ld
/-! Words, letter by letter. -/
namespace Ld
open PySem L2 PyProof.Rows
def low (c : Nat) : Bool := decide (97 ≤ c) && decide (c ≤ 122)
def lows (z : Str) : Bool := z.cps.toList.all low
def wordS (z : Str) : Bool := decide (1 ≤ z.length) && decide (z.length ≤ 12) && lows z
theorem sign_facts : ∀ c : Fin 128, (Unicode.isAlpha c.val && !(Unicode.isUpper c.val || Unicode.isTitle c.val)) = low c.val ∧ (low c.val = true → Unicode.isLower c.val = true) := by decide +kernel
theorem sign_fact {c : Nat} (h : c < 128) : (Unicode.isAlpha c && !(Unicode.isUpper c || Unicode.isTitle c)) = low c ∧ (low c = true → Unicode.isLower c = true) := sign_facts ⟨c, h⟩
theorem low_lt {c : Nat} (h : low c = true) : c < 128 := by
  simp only [low, Bool.and_eq_true, decide_eq_true_eq] at h
  omega
theorem arr_all (z : Str) (p : Nat → Bool) : z.cps.all p = z.cps.toList.all p := by simp
theorem arr_any (z : Str) (p : Nat → Bool) : z.cps.any p = z.cps.toList.any p := by simp
theorem lows_eq {z : Str} (h : 1 ≤ z.length) : (Txt.isascii z && (Txt.isalpha z && Txt.islower z)) = lows z := by
  unfold Txt.isascii Txt.isalpha Txt.islower lows
  rw [arr_all, arr_all, arr_any, arr_any]
  have hl : (decide (z.length > 0)) = true := decide_eq_true h
  have hl2 : z.cps.toList.length = z.length := by simp [Str.length]
  rw [hl, Bool.true_and]
  generalize z.cps.toList = l at hl2
  rw [Bool.eq_iff_iff]
  simp only [Bool.and_eq_true, List.all_eq_true, List.any_eq_true, Bool.not_eq_true', decide_eq_true_eq]
  constructor
  · rintro ⟨h1, h2, _, h4⟩ c hc
    have f := (sign_fact (h1 c hc)).1
    rw [← f, Bool.and_eq_true]
    refine ⟨h2 c hc, ?_⟩
    have h5 := List.any_eq_false.mp h4 c hc
    simpa using h5
  · intro hh
    have f : ∀ c ∈ l, c < 128 ∧ Unicode.isAlpha c = true ∧ (Unicode.isUpper c || Unicode.isTitle c) = false ∧ Unicode.isLower c = true := fun c hc => by
      have h0 := hh c hc
      have h1 := low_lt h0
      obtain ⟨f1, f2⟩ := sign_fact h1
      rw [h0, Bool.and_eq_true] at f1
      exact ⟨h1, f1.1, by simpa using f1.2, f2 h0⟩
    refine ⟨fun c hc => (f c hc).1, fun c hc => (f c hc).2.1, ?_, List.any_eq_false.mpr fun c hc => by rw [(f c hc).2.2.1]; simp⟩
    cases l with
    | nil =>
      simp at hl2
      omega
    | cons c r => exact ⟨c, List.mem_cons_self, (f c List.mem_cons_self).2.2.2⟩
theorem one_lt (a b : Nat) : decide (([a] : List Nat) < [b]) = decide (a < b) := by
  by_cases h : a < b
  · rw [decide_eq_true h, decide_eq_true]
    exact List.Lex.rel h
  · rw [decide_eq_false h, decide_eq_false]
    intro z
    cases z with
    | rel q => exact h q
    | cons q => cases q
/-- what the data says -/
def numD (hi : Int) : PyData → Bool
  | .int i => decide (0 ≤ i) && decide (i ≤ hi)
  | _ => false
def wordD : PyData → Bool
  | .str z => wordS z
  | _ => false
def addrD : PyData → Bool
  | .tuple ds => ds.all wordD
  | _ => false
/-- a short text of plain signs -/
def Asc (z : Str) : Prop := z.length ≤ 100 ∧ ∀ c ∈ z.cps.toList, c < 128
def FitS (d : PyData) : Prop := ∀ z, d = .str z → Asc z
def Fits (d : PyData) : Prop := FitS d ∧ ∀ ds, d = .tuple ds → ds.length ≤ 10000 ∧ ∀ e ∈ ds, FitS e
theorem Asc.size {z : Str} (h : Asc z) : z.length ≤ sizeLine := Nat.le_trans h.1 (by decide)
theorem FitS.of {d : PyData} (h : ∀ z, d ≠ .str z) : FitS d := fun z e => absurd e (h z)
end Ld
/-! Short rules. -/
namespace Ld
open PySem L2 PyProof.Rows
section
variable {X : Cx}
theorem PE.conv {e : Expr} {t t' : TE} (h : PE X e t') (c : ∀ σ H Q, t σ H Q → t' σ H Q) : PE X e t := ⟨fun pins s σ H Q I z => h.run pins s σ H Q I (c σ H Q z)⟩
theorem PT.conv {e : Expr} {t t' : TT} (h : PT X e t') (c : ∀ σ H Q, t σ H Q → t' σ H Q) : PT X e t := ⟨fun pins s σ H Q I z => h.run pins s σ H Q I (c σ H Q z)⟩
theorem OpR.conv {f : Value → Value → Sem Value} {r r' : R2} (h : OpR X f r') (c : ∀ x y H Q, r x y H Q → r' x y H Q) : OpR X f r := fun pins s σ H x y v u Q I rx ry z => h pins s σ H x y v u Q I rx ry (c x y H Q z)
theorem CallR.conv {f : Value} {r r' : List V → Hp → VK → Prop} (h : CallR X f r') (c : ∀ xs H Q, r xs H Q → r' xs H Q) : CallR X f r := fun pins s σ H xs us Q I r z => h pins s σ H xs us Q I r (c xs H Q z)
/-- isinstance(a, T) -/
def rIsa (K : PySem.W.Frag) (T : String) (x : V) (H : Hp) (Q : VK) : Prop := ∃ t b, TyX K H x t ∧ PySem.W.kitOne K t (.type T) = some b ∧ Q (.bl b) H
theorem call_isa (T : String) : CallR X (.builtin "isinstance") (fun xs H Q => ∃ x, xs = [x, .ty T] ∧ rIsa X.K T x H Q) := CallR.conv call_isi fun xs H Q ⟨x, e, t, b, h1, h2, q⟩ => ⟨x, .ty T, t, .type T, b, e, .ty T, h1, h2, q⟩
/-- t[lo:hi], whatever object it is -/
def rSlW (K : PySem.W.Frag) : V → Option Int → Option Int → Hp → VK → Prop := fun x lo hi H Q => ∃ a xs, x = .ref a ∧ SqT K H a xs ∧ ∀ r H', Same H H' → SqT K H' r (cutV xs lo hi) → Q (.ref r) H'
theorem cut_whole {xs : List V} {lo hi : Option Int} (h : HT.sIx xs.length 0 lo = 0 ∧ HT.sIx xs.length xs.length hi = xs.length) : cutV xs lo hi = xs := by
  unfold cutV
  rw [h.1, h.2, List.drop_zero, Nat.sub_zero, List.take_length]
theorem sl_tupW : SlR X (rSlW X.K) := by
  intro pins s σ H x v vl vu lo hi sl Q I rx hs pl pu h
  obtain ⟨a, xs, rfl, hx, q⟩ := h
  exact sl_tupA pins s σ H _ v vl vu lo hi sl Q I rx hs pl pu ⟨a, xs, rfl, hx, fun hw => q a H (Same.refl H) (by rw [cut_whole hw]; exact hx), fun _ p hp => q p _ (Same.new hp) (.of upd_same)⟩
/-- t + u, whatever object it is -/
def rCatW (K : PySem.W.Frag) : R2 := fun x y H Q => ∃ a b xs ys, x = .ref a ∧ y = .ref b ∧ SqT K H a xs ∧ SqT K H b ys ∧ xs.length + ys.length ≤ sizeLine ∧ ∀ r H', Same H H' → SqT K H' r (xs ++ ys) → Q (.ref r) H'
theorem op_catW : OpR X (binaryOp .Add) (rCatW X.K) := OpR.conv op_catA fun x y H Q ⟨a, b, xs, ys, e1, e2, h1, h2, hz, q⟩ => by
  refine ⟨a, b, xs, ys, e1, e2, h1, h2, hz, fun e => ?_, fun _ e => ?_, fun _ _ p hp => q p _ (Same.new hp) (.of upd_same)⟩
  · subst e
    exact q b H (Same.refl H) h2
  · subst e
    exact q a H (Same.refl H) (by rw [List.append_nil]; exact h1)
/-- a tuple displayed, a list displayed: what is said of them -/
theorem bootN : bootBuiltins "isinstance" = some (.builtin "isinstance") := by decide +kernel
end
end Ld
namespace Ld
open PySem L2 PyProof.Rows
/-- f(..) of a def without default values that lets nothing out -/
structure Df (P : Program) (w : World) (K : PySem.W.Frag) (mg : Str → Option Value) (base : Heap) (k : Nat) (x : Str) (ps : List Str) (sp : Sp) : Prop where
  ex : ∃ f fd, mg x = some (.ref f) ∧ PySem.W.keepIn K (.ref f) = true ∧ Binds K fd ps [] ∧ FnOk P w K mg base CX0 k f fd ps sp
structure DfG (P : Program) (w : World) (K : PySem.W.Frag) (mg : Str → Option Value) (base : Heap) (k : Nat) (x : Str) (ps : List Str) (sp : Sp) : Prop where
  ex : ∃ f fd, mg x = some (.ref f) ∧ PySem.W.keepIn K (.ref f) = true ∧ Binds K fd ps [] ∧ FnG P w K mg base k f fd ps sp
def tDf (sp : Sp) (t : TA) : TE := fun σ H Q => t σ H fun vs H1 => sp vs H1 Q E0
section
variable {X : Cx} {k : Nat} {ps : List Str} {sp : Sp} {x : Str} {p pos : Pos} {e : Expr} {es : List Expr} {t : TA}
theorem pe_df {j : Nat} (D : Df X.prog X.w X.K X.mg X.base k x ps sp) (hr : Room j X.A) (ha : PA X (e :: es) t) (hj : k ≤ j := by decide) (hg : Gl X x := by rfl) (hdb : (x == ("__debug__" : Str)) = false := by decide) (he : starEach (e :: es) X.env = (false, eval e X.env) :: starEach es X.env := by rfl)
    (hpl : (backTo pos (starEach es X.env)).any (·.1) = false := by rfl) : PE X (.Call (.Name x p) (e :: es) [] pos) (tDf sp t) := by
  obtain ⟨f, fd, h1, h2, h3, h4⟩ := D.ex
  have z := pe_call (pos := pos) (p := p) h4 (hr.mono hj) hg h1 h2 h3 .nil pass0 ha hdb he hpl
  have e : tCall sp [] E0 t = tDf sp t := by
    funext σ H Q
    unfold tCall tDf
    simp only [List.append_nil]
  rw [e] at z
  exact z
theorem pe_dfG {j : Nat} (D : DfG X.prog X.w X.K X.mg X.base k x ps sp) (hG : X.A.guards = some []) (hr : Room j X.A) (ha : PA X (e :: es) t) (hj : k ≤ j := by decide) (hg : Gl X x := by rfl) (hdb : (x == ("__debug__" : Str)) = false := by decide)
    (he : starEach (e :: es) X.env = (false, eval e X.env) :: starEach es X.env := by rfl) (hpl : (backTo pos (starEach es X.env)).any (·.1) = false := by rfl) : PE X (.Call (.Name x p) (e :: es) [] pos) (tDf sp t) := by
  obtain ⟨f, fd, h1, h2, h3, h4⟩ := D.ex
  have z := pe_callG (pos := pos) (p := p) h4 hG (hr.mono hj) hg h1 h2 h3 ha hdb he hpl
  have e : tCall sp [] E0 t = tDf sp t := by
    funext σ H Q
    unfold tCall tDf
    simp only [List.append_nil]
  rw [e] at z
  exact z
end
section
variable {K : PySem.W.Frag} {H : Hp} {v : V}
theorem Th.int_v {i : Int} (h : Th K H v (.int i)) : v = .int i := by
  cases h with
  | lf h => cases h with
    | dat h => cases h; rfl
theorem Th.str_v {z : Str} (h : Th K H v (.str z)) : v = .str z := by
  cases h with
  | lf h => cases h with
    | dat h => cases h; rfl
end
end Ld
namespace Ld
open PySem L2 PyProof.Rows
/-! ### over the signs of a text -/
theorem lc_str {x : Str} {g : TG} {tt : TT} {te : TE} {vs : List Nat} {σ : L2.St} {H1 : Hp} {D : Addr} {Qd : Hp → Prop} (Pv : Nat → Hp → Prop) (h0 : Pv 0 (upd H1 D (.lst [])))
    (hs : ∀ i c H, x.cps[i]? = some c → Pv i H → g (.str ⟨#[c]⟩) (wipe σ vs) H fun σ2 H2 => wipe σ2 vs = wipe σ vs ∧ tt σ2 H2 fun b H3 =>
      if b = true then te σ2 H3 fun y H4 => ∃ acc, H4 D = some (.lst acc) ∧ acc.length < sizeLine ∧ Pv (i + 1) (upd H4 D (.lst (acc ++ [y]))) else Pv (i + 1) H3) (hd : ∀ H, Pv x.cps.size H → Qd H) :
    ∃ W : Nat → Nat → Hp → Prop, (∃ m, W 0 m (upd H1 D (.lst []))) ∧ ∀ i m H, W i m H →
      ((L2.Its x).stop i H ∧ Qd H) ∨ ((L2.Its x).go i H ∧ ∃ Nx : Hp → Prop, (∀ H', Nx H' → ∃ m', m' < m ∧ W (i + 1) m' H') ∧ ∀ v H', (L2.Its x).yld i H v H' → g v (wipe σ vs) H' fun σ2 H2 => wipe σ2 vs = wipe σ vs ∧ tt σ2 H2 fun b H3 =>
        if b = true then te σ2 H3 fun y H4 => ∃ acc, H4 D = some (.lst acc) ∧ acc.length < sizeLine ∧ Nx (upd H4 D (.lst (acc ++ [y]))) else Nx H3) := by
  refine ⟨fun i m H => m + i = x.cps.size ∧ Pv i H, ⟨x.cps.size, rfl, h0⟩, fun i m H ⟨e, p⟩ => ?_⟩
  by_cases hlt : i < x.cps.size
  · refine Or.inr ⟨hlt, Pv (i + 1), fun H' p' => ⟨m - 1, by omega, by omega, p'⟩, fun v H' y => ?_⟩
    obtain ⟨rfl, c, hc, rfl⟩ := y
    exact hs i c H' hc p
  · have e2 : i = x.cps.size := by omega
    subst e2
    exact Or.inl ⟨Nat.le_refl _, hd H p⟩
theorem for_str {x : Str} {g : TG} {tb : TS} {D : Ends} {σ : L2.St} {H : Hp} (Pv : Nat → L2.St → Hp → Prop) (h0 : Pv 0 σ H)
    (hs : ∀ i c σ H, x.cps[i]? = some c → Pv i σ H → g (.str ⟨#[c]⟩) σ H fun σ2 H2 => tb { D with nx := Pv (i + 1), ct := Pv (i + 1), bk := D.nx } σ2 H2) (hd : ∀ σ H, Pv x.cps.size σ H → D.nx σ H) :
    ∃ W : Nat → Nat → L2.St → Hp → Prop, (∃ m, W 0 m σ H) ∧ ∀ i m σ H, W i m σ H → ((L2.Its x).stop i H ∧ D.nx σ H) ∨ ((L2.Its x).go i H ∧ ∃ N : L2.St → Hp → Prop, (∀ σ' H', N σ' H' → ∃ m', m' < m ∧ W (i + 1) m' σ' H') ∧
      ∀ v H', (L2.Its x).yld i H v H' → g v σ H' fun σ2 H2 => tb { D with nx := N, ct := N, bk := D.nx } σ2 H2) := by
  refine ⟨fun i m σ H => m + i = x.cps.size ∧ Pv i σ H, ⟨x.cps.size, rfl, h0⟩, fun i m σ H ⟨e, p⟩ => ?_⟩
  by_cases hlt : i < x.cps.size
  · refine Or.inr ⟨hlt, Pv (i + 1), fun σ' H' p' => ⟨m - 1, by omega, by omega, p'⟩, fun v H' y => ?_⟩
    obtain ⟨rfl, c, hc, rfl⟩ := y
    exact hs i c σ H' hc p
  · have e2 : i = x.cps.size := by omega
    subst e2
    exact Or.inl ⟨Nat.le_refl _, hd σ H p⟩
/-! ### a list compared with the empty one -/
theorem eqv_nil_tuple (ds : List PyData) : PyData.eqv (.list ds) (.list []) = ds.isEmpty := by
  cases ds <;> rfl
end Ld
namespace Ld
open PySem L2 PyProof.Rows
/-- a list against an empty one, whatever is in it -/
def rEq0 : R2 := fun x y H Q => ∃ a b xs, x = .ref a ∧ y = .ref b ∧ H a = some (.lst xs) ∧ H b = some (.lst []) ∧ Q (.bl xs.isEmpty) H
theorem op_eq0 {X : Cx} (hu : X.A.units + 64 < cLine) : OpR X (compareOp .Eq) rEq0 := by
  intro pins s σ H x y v u Q I rx ry h
  obtain ⟨a, b, xs, rfl, rfl, ha, hb, q⟩ := h
  cases xs with
  | nil => exact op_eqD hu pins s σ H _ _ v u Q I rx ry ⟨.list [], .list [], .lst (.of ha) .nil, .lst (.of hb) .nil, by decide, by decide, q⟩
  | cons y ys =>
    cases rx
    cases ry
    obtain ⟨_, its, n, r, e1⟩ := (show ObjOk X.prog X.w H s.heap a (.lst (y :: ys)) from I.hok a _ ha)
    obtain ⟨_, its2, n2, r2, e2⟩ := (show ObjOk X.prog X.w H s.heap b (.lst []) from I.hok b _ hb)
    cases r2
    refine SeqAt.eq_list_lengthsAt (items := its.toArray) (items2 := ([] : List Value).toArray) ⟨_, e1, rfl, n, rfl⟩ ⟨_, e2, rfl, n2, rfl⟩ ?_ (by omega) ⟨.bl false, H, I, rfl, q⟩
    have := r.length
    simp at this
    simp
    cases its with
    | nil => simp at this
    | cons a b => simp
end Ld
/-! The well's two numbers, and numbers of a script squared. -/
namespace Ld
open PySem L2 PyProof.Rows
def kd : Key := Sum.inr (Str.ofString "digits")
def km : Key := Sum.inr (Str.ofString "mixed")
theorem keys_ne : ¬ (kd = km) := by decide +kernel
theorem keys_ne' : ¬ (km = kd) := fun e => keys_ne e.symm
theorem wellKv_eq (d m : Int) : wellKv d m = [(kd, V.int d), (km, V.int m)] := rfl
theorem well_dig (d m : Int) : valV (wellKv d m) kd = some (.int d) := by
  rw [wellKv_eq]
  exact valV_pos rfl
theorem well_mix (d m : Int) : valV (wellKv d m) km = some (.int m) := by
  rw [wellKv_eq]
  rw [valV_neg keys_ne]
  exact valV_pos rfl
theorem put_dig (d m x : Int) : putK (wellKv d m) kd (.int x) = wellKv x m := by
  unfold putK
  rw [valV_any, well_dig]
  show (if true = true then _ else _) = _
  rw [if_pos rfl]
  rw [wellKv_eq, wellKv_eq]
  show [if kd = kd then (kd, V.int x) else _, if km = kd then (km, V.int x) else (km, V.int m)] = _
  rw [if_pos rfl, if_neg keys_ne']
theorem put_mix (d m x : Int) : putK (wellKv d m) km (.int x) = wellKv d x := by
  unfold putK
  rw [valV_any, well_mix]
  show (if true = true then _ else _) = _
  rw [if_pos rfl]
  rw [wellKv_eq, wellKv_eq]
  show [if kd = km then (kd, V.int x) else (kd, V.int d), if km = km then (km, V.int x) else _] = _
  rw [if_neg keys_ne, if_pos rfl]
theorem merge_well (d m : Int) : mergeK [] [(kd, V.int d), (km, V.int m)] = wellKv d m := by
  show putK (putK [] kd (V.int d)) km (V.int m) = _
  rw [putK_new (kvs := []) _ rfl, List.nil_append, putK_new _ (by rw [valV_neg keys_ne]; rfl)]
  rfl
theorem sq_wide {m e : Int} {n : Nat} (h : e.natAbs < 2 ^ n) (hm : m.natAbs < 2 ^ 60) (hn : 60 ≤ n) : (m + e * e + 59).natAbs < 2 ^ (2 * n + 2) := by
  have h1 : (e * e).natAbs < 2 ^ (2 * n) := by
    rw [Int.natAbs_mul, Nat.two_mul, Nat.pow_add]
    exact Nat.mul_lt_mul'' h h
  have h2 : 2 ^ 60 ≤ 2 ^ (2 * n) := Nat.pow_le_pow_right (by decide) (by omega)
  have h3 : (2 : Nat) ^ (2 * n + 2) = 4 * 2 ^ (2 * n) := by
    rw [Nat.pow_add]
    omega
  rw [h3]
  generalize (2 : Nat) ^ (2 * n) = z at h1 h2
  generalize e * e = s at h1
  have h4 : (2 : Nat) ^ 60 = 1152921504606846976 := by decide
  omega
theorem mul_small {m c : Int} (h0 : 0 ≤ m) (h1 : m < 2 ^ 40) (c0 : 0 ≤ c) (c1 : c < 2 ^ 17) : (m * c).natAbs < 2 ^ 60 := by
  rw [Int.natAbs_mul]
  have a : m.natAbs < 2 ^ 40 := by omega
  have b : c.natAbs < 2 ^ 17 := by omega
  have := Nat.mul_lt_mul'' a b
  exact Nat.lt_of_lt_of_le this (by decide)
theorem bits_small {m : Int} (h0 : 0 ≤ m) (h1 : m < 2 ^ 40) : Builtin.Int.intBits m ≤ 40 := bits_of (by omega)
theorem list_get {ns : List Int} {i : Nat} {x : V} (h : (ns.map V.int)[i]? = some x) : ∃ z, ns[i]? = some z ∧ x = .int z := by
  rw [List.getElem?_map] at h
  cases e : ns[i]? with
  | none => rw [e] at h; cases h
  | some z =>
    rw [e] at h
    exact ⟨z, rfl, (Option.some.inj h).symm⟩
end Ld
/-! Small things: what is drawn is short. -/
namespace Ld
open PySem L2 PyProof.Rows
def ascB (z : Str) : Bool := decide (z.length ≤ 100) && z.cps.toList.all (fun c => decide (c < 128))
theorem asc_of {z : Str} (h : ascB z = true) : Asc z := by
  simp only [ascB, Bool.and_eq_true, decide_eq_true_eq, List.all_eq_true] at h
  exact h
/-- short enough to stand in something -/
structure Part (d : PyData) : Prop where
  fit : FitS d
  sh : d.showable = true
  dp : d.depth ≤ 20
  len : d.shown.length ≤ 2000
def partB (d : PyData) : Bool := (match d with | .str z => ascB z | _ => true) && d.showable && decide (d.depth ≤ 20) && decide (d.shown.length ≤ 2000)
theorem part_of {d : PyData} (h : partB d = true) : Part d := by
  simp only [partB, Bool.and_eq_true, decide_eq_true_eq] at h
  obtain ⟨⟨⟨h1, h2⟩, h3⟩, h4⟩ := h
  refine ⟨fun z e => ?_, h2, h3, h4⟩
  subst e
  exact asc_of h1
theorem part_str {z : Str} (h : Asc z) : Part (.str z) := by
  refine ⟨fun y e => by cases e; exact h, rfl, by show 0 ≤ 20; decide, ?_⟩
  have := PySem.StrLaws.reprText_len z fun c hc => Nat.lt_of_lt_of_le (h.2 c hc) (by decide)
  show (reprText z).length ≤ 2000
  have := h.1
  omega
theorem Part.small {d : PyData} (h : Part d) : Small d := ⟨h.sh, Nat.le_trans h.dp (by decide), Nat.le_trans h.len (by decide)⟩
theorem shows_all : ∀ {ds : List PyData}, (∀ d ∈ ds, Part d) → PyData.showableAll ds = true
  | [], _ => rfl
  | d :: ds, h => by
    simp only [PyData.showableAll, (h d List.mem_cons_self).sh, shows_all fun x hx => h x (List.mem_cons_of_mem _ hx), Bool.and_self]
theorem depth_all : ∀ {ds : List PyData}, (∀ d ∈ ds, Part d) → PyData.depthAll ds ≤ 20
  | [], _ => by show 0 ≤ 20; decide
  | d :: ds, h => by
    have h1 := (h d List.mem_cons_self).dp
    have h2 := depth_all fun x hx => h x (List.mem_cons_of_mem _ hx)
    simp only [PyData.depthAll]
    omega
theorem len_all : ∀ {ds : List PyData}, (∀ d ∈ ds, Part d) → ((PyData.shownAll ds).map (·.length)).sum ≤ 2000 * ds.length ∧ (PyData.shownAll ds).length = ds.length
  | [], _ => ⟨Nat.le_refl _, rfl⟩
  | d :: ds, h => by
    have h1 := (h d List.mem_cons_self).len
    obtain ⟨h2, h3⟩ := len_all fun x hx => h x (List.mem_cons_of_mem _ hx)
    simp only [PyData.shownAll, List.map_cons, List.sum_cons, List.length_cons]
    omega
theorem small_list {ds : List PyData} (h : ∀ d ∈ ds, Part d) (hn : ds.length ≤ 1000) : Small (.list ds) := by
  obtain ⟨h2, h3⟩ := len_all h
  refine ⟨by simpa only [PyData.showable] using shows_all h, ?_, ?_⟩
  · have := depth_all h
    simp only [PyData.depth]
    omega
  · have := listText_len_le (PyData.shownAll ds)
    simp only [PyData.shown]
    rw [sizeLine_eq]
    omega
theorem small_tuple {ds : List PyData} (h : ∀ d ∈ ds, Part d) (hn : ds.length ≤ 1000) : Small (.tuple ds) := by
  obtain ⟨h2, h3⟩ := len_all h
  refine ⟨by simpa only [PyData.showable] using shows_all h, ?_, ?_⟩
  · have := depth_all h
    simp only [PyData.depth]
    omega
  · have := tupleText_len_le (PyData.shownAll ds)
    simp only [PyData.shown]
    rw [sizeLine_eq]
    omega
theorem fits_list {ds : List PyData} : Fits (.list ds) := ⟨(fun z e => by cases e), (fun ds e => by cases e)⟩
theorem fits_tuple {ds : List PyData} (h : ∀ d ∈ ds, Part d) (hn : ds.length ≤ 1000) : Fits (.tuple ds) := ⟨(fun z e => by cases e), (fun es e => by cases e; exact ⟨Nat.le_trans hn (by decide), fun d hd => (h d hd).fit⟩)⟩
theorem Part.fits {d : PyData} (h : Part d) (n : ∀ ds, d ≠ .tuple ds) : Fits d := ⟨h.fit, fun ds e => absurd e (n ds)⟩
theorem parts_strs {ws : List Str} (h : ∀ w ∈ ws, Asc w) : ∀ d ∈ ws.map PyData.str, Part d := fun d hd => by
  obtain ⟨w, hw, rfl⟩ := List.mem_map.mp hd
  exact part_str (h w hw)
/-- a drawn thing: it stands, it is short -/
def Good (K : PySem.W.Frag) (H : Hp) (v : V) : Prop := ∃ d, Th K H v d ∧ Fits d ∧ Small d
theorem Good.sb {K : PySem.W.Frag} {H H' : Hp} {wa : Addr} {v : V} (W : Well H wa) (s : Sb wa H H') (h : Good K H v) : Good K H' v := by
  obtain ⟨d, h1, h2⟩ := h
  exact ⟨d, h1.sb W s, h2⟩
theorem Good.same {K : PySem.W.Frag} {H H' : Hp} {v : V} (s : Same H H') (h : Good K H v) : Good K H' v := by
  obtain ⟨d, h1, h2⟩ := h
  exact ⟨d, h1.same s, h2⟩
/-- any of the menu -/
def Any (K : PySem.W.Frag) (H : Hp) (v : V) : Prop := ∃ d, Lf K H v d ∧ Part d ∧ Fits d
theorem Any.sb {K : PySem.W.Frag} {H H' : Hp} {wa : Addr} {v : V} (W : Well H wa) (s : Sb wa H H') (h : Any K H v) : Any K H' v := by
  obtain ⟨d, h1, h2⟩ := h
  exact ⟨d, h1.sb W s, h2⟩
theorem Any.same {K : PySem.W.Frag} {H H' : Hp} {v : V} (s : Same H H') (h : Any K H v) : Any K H' v := by
  obtain ⟨d, h1, h2⟩ := h
  exact ⟨d, h1.same s, h2⟩
theorem Any.good {K : PySem.W.Frag} {H : Hp} {v : V} (h : Any K H v) : Good K H v := by
  obtain ⟨d, h1, h2, h3⟩ := h
  exact ⟨d, .lf h1, h3, h2.small⟩
theorem any_int {K : PySem.W.Frag} {H : Hp} (i : Int) (h : partB (.int i) = true) : Any K H (.int i) := ⟨_, .dat (.int i), part_of h, (part_of h).fits (fun _ e => by cases e)⟩
theorem any_str {K : PySem.W.Frag} {H : Hp} (z : Str) (h : ascB z = true) : Any K H (.str z) := ⟨_, .dat (.str z), part_str (asc_of h), (part_str (asc_of h)).fits (fun _ e => by cases e)⟩
theorem any_non {K : PySem.W.Frag} {H : Hp} : Any K H .non := ⟨_, .dat .non, part_of (by decide +kernel), (part_of (by decide +kernel)).fits (fun _ e => by cases e)⟩
theorem any_bl {K : PySem.W.Frag} {H : Hp} (b : Bool) : Any K H (.bl b) := ⟨_, .dat (.bl b), part_of (by cases b <;> decide +kernel), (part_of (d := .bool b) (by cases b <;> decide +kernel)).fits (fun _ e => by cases e)⟩
theorem any_tup {K : PySem.W.Frag} {H : Hp} {a : Addr} {xs : List V} {ds : List PyData} (h : SqT K H a xs) (hd : DpAll K H xs ds) (p : partB (.tuple ds) = true) (q : ds.all partB = true) (hn : ds.length ≤ 1000) : Any K H (.ref a) :=
  ⟨_, .dat (.tup h hd), part_of p, fits_tuple (fun d h => part_of (List.all_eq_true.mp q d h)) hn⟩
theorem any_lst {K : PySem.W.Frag} {H : Hp} {a : Addr} {xs : List V} {ds : List PyData} (h : SqL K H a xs) (hd : DpAll K H xs ds) (p : partB (.list ds) = true) : Any K H (.ref a) := ⟨_, .dat (.lst h hd), part_of p, fits_list⟩
theorem any_dct0 {K : PySem.W.Frag} {H : Hp} {a : Addr} (h : H a = some (.dK [])) : Any K H (.ref a) := ⟨_, .dct0 h, part_of (by decide +kernel), (part_of (d := .dict []) (by decide +kernel)).fits (fun _ e => by cases e)⟩
theorem any_dct1 {K : PySem.W.Frag} {H : Hp} {a : Addr} {x y : Str} (h : H a = some (.dK [(Sum.inr x, .str y)])) (p : partB (.dict [(.str x, .str y)]) = true) : Any K H (.ref a) := ⟨_, .dct1 h, part_of p, (part_of p).fits (fun _ e => by cases e)⟩
end Ld
/-! A tuple many times; texts joined. -/
namespace Ld
open PySem L2 PyProof.Rows
/-- t * k, up to a hundred thousand items -/
def rRepL (K : PySem.W.Frag) : R2 := fun x y H Q => ∃ l k xs, x = .ref l ∧ y = .int (k : Nat) ∧ SqT K H l xs ∧ xs ≠ [] ∧ 2 ≤ k ∧ xs.length * k ≤ 100000 ∧ ∀ p, H p = none → Q (.ref p) (upd H p (.tup (List.replicate k xs).flatten))
theorem op_repL {X : Cx} : OpR X (binaryOp .Mult) (rRepL X.K) := by
  intro pins s σ H x y v u Q I rx ry h
  obtain ⟨l, k, xs, rfl, rfl, hT, hne, h2, hk, q⟩ := h
  cases rx
  obtain ⟨t, rfl⟩ := ry
  obtain ⟨its, r, ⟨⟨c, dd, dt, sl⟩, ho, (rfl : c = _), n, (rfl : dt = _)⟩, _⟩ := I.tuple hT
  have hlen : its.length = xs.length := r.length.symm
  have hpos : 0 < xs.length := List.length_pos_iff.mpr hne
  have hbig : k ≤ 100000 := Nat.le_trans (Nat.le_mul_of_pos_left k hpos) hk
  have emp : its.toArray.isEmpty = false := by
    cases its with
    | nil =>
      simp at hlen
      omega
    | cons _ _ => rfl
  have siz : its.toArray.size = xs.length := by rw [List.size_toArray, hlen]
  have prod : ((its.toArray.size : Nat) : Int) * (k : Int) = ((xs.length * k : Nat) : Int) := by
    rw [siz]
    exact (Int.natCast_mul _ _).symm
  have flat : (List.replicate k its).flatten.length = xs.length * k := by
    rw [PyProof.Rows.lm_len_rep_flat, hlen, Nat.mul_comm]
  have tk : ((k : Int)).toNat = k := Int.toNat_natCast k
  have one : (its.toArray.isEmpty || (k : Int) == 1) = false := by
    rw [emp]
    exact beq_eq_false_iff_ne.mpr (by omega)
  have zero : (decide ((k : Int) ≤ 0) || its.toArray.isEmpty) = false := by
    rw [emp, decide_eq_false (by omega)]
    rfl
  have wide : (decide ((k : Int) < -(2 ^ 63)) || decide ((k : Int) ≥ 2 ^ 63)) = false := by
    rw [decide_eq_false (show ¬ ((k : Int) < -(2 ^ 63)) by omega), decide_eq_false (show ¬ ((k : Int) ≥ 2 ^ 63) by omega)]
    rfl
  have many : Builtin.Tuple.tupleTooMany (((its.toArray.size : Nat) : Int) * (k : Int)) = false := by
    rw [prod]
    unfold Builtin.Tuple.tupleTooMany
    rw [sizeLine_eq]
    exact decide_eq_false (by omega)
  have room : (List.foldl (fun x1 x2 => x1 ++ x2) #[] (List.replicate (k : Int).toNat its.toArray)).size ≤ sizeLine := by
    rw [size_rep, List.size_toArray, tk, flat, sizeLine_eq]
    omega
  have far : ¬ ((its.toArray.size : Nat) : Int) * (k : Int) > (2 ^ 63 - 1) / 8 := by
    rw [prod]
    omega
  have ty : s.TypeIs (.ref l) "tuple" := ⟨_, ho, rfl⟩
  have done : EP X pins σ Q (Value.ref s.heap.objs.size) { s with heap := s.heap.push { cls := Value.type "tuple", data := Data.seq (List.foldl (fun x1 x2 => x1 ++ x2) #[] (List.replicate (k : Int).toNat its.toArray)) }, toks := s.toks } := by
    rw [size_rep, tk]
    refine ⟨.ref s.heap.objs.size, _, I.laid (t' := s.toks) (o := .tup (List.replicate k xs).flatten) (fun b ob e => Heap.get?_push_of_some _ e) (Nat.le_refl _) ⟨?_, _, r.rep k, IsTup.new _ _⟩, rfl, q _ (I.hok.fresh (Nat.le_refl _))⟩
    rw [PyProof.Rows.lm_len_rep_flat, Nat.mul_comm, sizeLine_eq]
    omega
  have mul := call_meets F.slot_tuple_mul ty F.entry_tuple_mul (F.args_tuple_mul_2 _ _) (tuple_mulW l its.toArray n dd sl (k : Int) t wide one zero far many room) (prog := X.prog) (w := X.w) (A := X.A) (E := X.xe) ⟨ho, done⟩
  exact wpAny_binaryOp_repeat_ref (T := "tuple") (U := "int") (by decide) ty (fun s' => typeIs_int s' _ t) noFill_tuple_mul F.fills_int_mul F.slot_int_rmul repeat_tuple F.slot_int_index.lookup
    (call_meets F.slot_int_rmul (typeIs_int s _ t) F.entry_int_rmul (F.args_int_rmul_2 _ _) (int_rmul_tuple _ t l its.toArray n dd sl) ⟨ho, rfl, ty, mul⟩)
theorem rep_one (x : V) : ∀ n : Nat, (List.replicate n [x]).flatten = List.replicate n x
  | 0 => rfl
  | n + 1 => by rw [List.replicate_succ, List.replicate_succ, List.flatten_cons, rep_one x n]; rfl
theorem join_asc : ∀ ws : List Str, (∀ z ∈ ws, ∀ c ∈ z.cps.toList, c < 128) → (Str.join (Str.ofString "") ws).length = (ws.map (·.length)).sum ∧ ∀ c ∈ (Str.join (Str.ofString "") ws).cps.toList, c < 128
  | [], _ => ⟨rfl, fun c hc => by cases hc⟩
  | [x], h => ⟨by show x.length = x.length + 0; omega, h x List.mem_cons_self⟩
  | x :: y :: r, h => by
    obtain ⟨h1, h2⟩ := join_asc (y :: r) fun z hz => h z (List.mem_cons_of_mem _ hz)
    have e : Str.join (Str.ofString "") (x :: y :: r) = x ++ Str.ofString "" ++ Str.join (Str.ofString "") (y :: r) := rfl
    rw [e]
    refine ⟨?_, fun c hc => ?_⟩
    · rw [strLen_append, strLen_append, h1]
      have e0 : (Str.ofString "").length = 0 := by decide +kernel
      rw [e0, List.map_cons (l := y :: r), List.sum_cons]
      omega
    · have hc : c ∈ ((x.cps ++ (Str.ofString "").cps) ++ (Str.join (Str.ofString "") (y :: r)).cps).toList := hc
      rw [Array.toList_append, Array.toList_append] at hc
      rcases List.mem_append.mp hc with g | g
      · rcases List.mem_append.mp g with g | g
        · exact h x List.mem_cons_self c g
        · have e0 : (Str.ofString "").cps.toList = [] := by decide +kernel
          rw [e0] at g
          cases g
      · exact h2 c g
theorem join_is (ws : List Str) : Txt.join (Str.ofString "") ws = Str.join (Str.ofString "") ws := PySem.StrLaws.glued_eq_join _ ws
theorem sum_le {ws : List Str} {b : Nat} (h : ∀ z ∈ ws, z.length ≤ b) : (ws.map (·.length)).sum ≤ b * ws.length := by
  induction ws with
  | nil => exact Nat.zero_le _
  | cons x r ih =>
    have h1 := h x List.mem_cons_self
    have h2 := ih fun z hz => h z (List.mem_cons_of_mem _ hz)
    rw [List.map_cons, List.sum_cons, List.length_cons, Nat.mul_add]
    omega
theorem good_int {K : PySem.W.Frag} {H : Hp} (i : Int) (h : i.natAbs < 2 ^ 64) : Good K H (.int i) := by
  have l : i.natAbs.log2 < 1920 := by
    by_cases z : i.natAbs = 0
    · rw [z]
      decide
    · exact Nat.lt_trans ((Nat.log2_lt z).mpr h) (by decide)
  refine ⟨.int i, .lf (.dat (.int i)), ⟨(fun z e => by cases e), (fun ds e => by cases e)⟩, ?_, by show 0 ≤ 40; decide, ?_⟩
  · simp only [PyData.showable]
    exact decide_eq_true l
  · simp only [PyData.shown]
    exact int_text_fits l
end Ld
/-! set(words): of a list or a tuple of texts. -/
namespace Ld
open PySem L2 PyProof.Rows
/-- the texts met so far, as a set of keys -/
def metK (xs : List Str) (i : Nat) : Key → Bool := fun k => (xs.take i).any fun z => decide (k = Sum.inr z)
theorem metK_succ {xs : List Str} {i : Nat} (h : i < xs.length) (k : Key) : metK xs (i + 1) k = (metK xs i k || decide (k = Sum.inr (xs.getD i Str.empty))) := by
  unfold metK
  rw [List.take_succ, List.getElem?_eq_getElem h, List.any_append, List.getD_eq_getElem?_getD, List.getElem?_eq_getElem h]
  simp
/-- of how many the set consists does not matter, as long as they are few -/
def FewOf (P : Program) (w : World) (h : Heap) (S : Addr) (xs : List Str) (i : Nat) : Prop := ∃ c, c ≤ i ∧ h.SetOf (mixKind P w) S (metK xs i) c
theorem FewOf.moved {P : Program} {w : World} {h h' : Heap} {S : Addr} {xs : List Str} {i : Nat} (f : FewOf P w h S xs i) (k : ∀ o, h.get? S = some o → h'.get? S = some o) : FewOf P w h' S xs i := by
  obtain ⟨c, hc, o, es, ep, t, e, r⟩ := f
  exact ⟨c, hc, o, es, ep, t, k o e, r⟩
section
variable {P : Program} {w : World} {A : Around} {R : Result → Shared → Prop} {I : Addr} {fp wr : List Addr} {G : Array GenState → Array GenState → Prop} {n : Nat} {PP : Nat → Value → Prop} {St : Nat → Shared → Prop}
theorem fill_texts (W : WalksS P w A.in1 I fp wr G n PP St) (S : Addr) (out : ¬ S ∈ fp) (xs : List Str) (hn : xs.length = n) (few : n + 1 < scanBound) (val : ∀ i v, PP i v → ∃ t, v = .str (xs.getD i Str.empty) t) (left : Nat) :
    ∀ (i : Nat) (s : Shared), left + i = n → St i s → FewOf P w s.heap S xs i → (∀ s', Moved (S :: wr) G s s' → FewOf P w s'.heap S xs n → R (.ok (.ret .none)) s') →
      codeAny (model P w) A (.builtin "set.update.loop" ⟨[.ref S, .ref I], []⟩) R s := by
  have notW : ¬ S ∈ wr := fun z => out (W.sub S z)
  have more : ∀ b ∈ wr, b ∈ S :: wr := fun b hb => List.mem_cons_of_mem S hb
  induction left with
  | zero =>
    intro i s e st f hR
    have e : i = n := by omega
    subst e
    refine codeAny_builtin F.entry_set_update_loop ?_
    rw [Around.under_plainId F.plain_set_update_loop _]
    show wpAny _ A.in1 (pyNext (.ref I) >>= _) _ _ s
    refine wpAny_bind (W.done s _ _ st fun s' mv => ?_)
    show wpAny _ A.in1 (ret Value.none) _ _ s'
    exact wpAny_pure (hR s' (mv.mono more) (f.moved fun o z => mv.heap S o notW z))
  | succ left ih =>
    intro i s e st f hR
    have lt : i < n := by omega
    refine codeAny_builtin F.entry_set_update_loop ?_
    rw [Around.under_plainId F.plain_set_update_loop _]
    show wpAny _ A.in1 (pyNext (.ref I) >>= _) _ _ s
    refine wpAny_bind (W.item i s _ _ lt st fun v s1 hv st1 mv => ?_)
    obtain ⟨t, rfl⟩ := val i v hv
    obtain ⟨c, hc, hS⟩ := f.moved fun o z => mv.heap S o notW z
    have rel : RelV (kV (Sum.inr (xs.getD i Str.empty))) (Value.str (xs.getD i Str.empty) t) := ⟨t, rfl⟩
    show wpAny _ A.in1 (holding [Value.str (xs.getD i Str.empty) t] (setAdd S (.str (xs.getD i Str.empty) t)) >>= _) _ _ s1
    refine wpAny_bind (wpAny_holding ?_)
    unfold setAdd
    refine wpAny_holding (wpAny_bind ((mixKind P w).pyHash (k := Sum.inr (xs.getD i Str.empty)) (kV_is rel) ?_))
    refine wpAny_setAddHashed_of (s := { s1 with toks := s1.toks + 1 }) (kV_is rel) (key_scan rel) hS (by omega) fun h2 same hS2 => ?_
    have f2 : FewOf P w h2 S xs (i + 1) := by
      refine ⟨if metK xs i (Sum.inr (xs.getD i Str.empty)) = true then c else c + 1, by split <;> omega, ?_⟩
      rw [show metK xs (i + 1) = fun k => metK xs i k || decide (k = Sum.inr (xs.getD i Str.empty)) from funext (metK_succ (by omega))]
      exact hS2
    refine wpAny_pure ⟨plainId_quiet F.plain_set_update_loop _, ih (i + 1) _ (by omega) (W.frame _ s1 _ _ st1 (Nat.le_succ _) fun b hb o z => ?_) f2 fun s3 mv3 f3 => hR s3 (Moved.trans W.gtrans ((mv.mono more).then_heap (Nat.le_succ _) fun b o nb z => ?_) mv3) f3⟩
    · rw [same.2 b fun (q : b = S) => out (q ▸ hb)]
      exact z
    · rw [same.2 b fun (q : b = S) => nb (by rw [q]; exact List.mem_cons_self)]
      exact z
end
section
variable {P : Program} {w : World} {A : Around} {E : Value → Shared → Prop} {s : Shared}
/-- a new set, as it is laid -/
abbrev newSet (led : Bool) : Obj := { cls := .type "set", dict := none, data := .set #[] 0 (.fresh 0 0 led) }
theorem fresh_few {h : Heap} {S : Addr} {led : Bool} {xs : List Str} (e : h.get? S = some (newSet led)) : FewOf P w h S xs 0 :=
  ⟨0, Nat.le_refl _, _, #[], 0, _, e, ⟨rfl, rfl, rfl⟩, rfl, (fun e he => by simp at he), (fun k => by simp [metK]), (by decide), (by cases led <;> rfl), rfl⟩
set_option maxHeartbeats 8000000 in
theorem set_of_list {l : Addr} {items : Array Value} {xs : List Str} {Q : Value → Shared → Prop} (hh : A.handled = none) (hl : s.heap.IsList l items) (hi : StrsAre items.toList xs) (few : xs.length + 1 < scanBound)
    (done : ∀ (h' : Heap) (tk : Nat), FewOf P w h' s.heap.objs.size xs xs.length → (∀ b o, s.heap.get? b = some o → h'.get? b = some o) → Q (.ref s.heap.objs.size) { s with heap := h', toks := tk }) :
    wpAny (model P w) A (call (.type "set") [.ref l]) Q E s := by
  obtain ⟨c, tl, hmro⟩ := PySem.F.called_set.mro
  have g1 := PySem.F.called_set.made
  have g2 := PySem.F.called_set.sub
  have g3 := PySem.F.called_set.notType
  have g4 := PySem.F.called_set.canCreate
  have g5 := PySem.F.typeCall_set_1 (.ref l)
  refine wpAny_call (codeAny_of_tree (show wpAny _ _ (callAny (.type "set") _) _ _ _ from wpAny_pure ⟨Code.quiet_builtin _ (by decide +kernel), codeAny_builtin PySem.F.entry_type_call ?_⟩))
  rw [Around.under_plain (weight_type_call_type "set" [.ref l] []) rfl]
  repeat (any_goals (first | assumption | wp_step))
  refine codeAny_mono (code_set_new_1 (.ref l) (E := E) (Q₁ := fun v z => ∃ led : Bool, v = .ref s.heap.objs.size ∧ z = { s with heap := s.heap.push (newSet led) }) fun led => ⟨led, rfl, rfl⟩) fun r s1 hr => ?_
  cases r with
  | error e => exact hr
  | ok fl =>
    cases fl with
    | next => exact hr.elim
    | brk => exact hr.elim
    | cont => exact hr.elim
    | ret v =>
      obtain ⟨led, rfl, rfl⟩ := hr
      have laid : (s.heap.push (newSet led)).get? s.heap.objs.size = some (newSet led) := Heap.get?_push_size _ rfl
      have tyS : Shared.TypeIs { s with heap := s.heap.push (newSet led) } (.ref s.heap.objs.size) "set" := ⟨_, laid, rfl⟩
      have g6 := PySem.F.called_set.init.lookup
      have g7 := PySem.F.called_set.init.bind (.ref s.heap.objs.size)
      repeat (any_goals (first | assumption | wp_step))
      refine codeAny_mono (codeAny_call_builtin (R := wants (fun v z => v = .none ∧ ∃ h' tk, z = { s with heap := h', toks := tk } ∧ FewOf P w h' s.heap.objs.size xs xs.length ∧ ∀ b o, b < s.heap.objs.size → s.heap.get? b = some o → h'.get? b = some o) E)
        PySem.F.called_set.init.plain PySem.F.entry_set_init (check_set_init_1 tyS ?_)) fun r2 s2 hr2 => ?_
      · obtain ⟨⟨oc, od, dt, sl⟩, ho, hc, nl, hd⟩ := hl
        simp only at hc hd
        subst hc
        subst hd
        have there : (s.heap.push (newSet led)).get? l = some { cls := .type "list", dict := od, data := .seq items nl, slots := sl } := Heap.get?_push_of_some _ ho
        have g8 := PySem.F.sub_list_set
        have g9 := PySem.F.sub_list_frozenset
        have g10 : (Value.type "list" == Value.type "dict") = false := by decide
        have isq : (s.heap.push (newSet led)).IsList l items := ⟨_, there, rfl, nl, rfl⟩
        unfold Builtin.«set.__init__» noKeywords Builtin.Frozenset.updateFrom
        generalize hPI : pyIter = PI
        wp_walk
        subst hPI
        refine wpAny_pyIter_list isq (wpAny_bind (wpAny_runValue ?_))
        have below : l < s.heap.objs.size := Heap.lt_size ho
        have handled3 : A.in1.in1.in1.handled = none := by simp [hh]
        have apart : l ≠ (s.heap.push (newSet led)).objs.size := by
          rw [Heap.size_push]
          exact Nat.ne_of_lt (Nat.lt_succ_of_lt below)
        have away : ¬ s.heap.objs.size ∈ [(s.heap.push (newSet led)).objs.size, l] := by
          rw [Heap.size_push]
          intro z
          rcases List.mem_cons.mp z with z | z
          · exact absurd z (Nat.ne_of_lt (Nat.lt_succ_self _))
          · exact absurd (List.mem_singleton.mp z) (Nat.ne_of_gt below)
        have many : xs.length = items.size := by rw [← StrsAre.len_eq hi, Array.length_toList]
        have val : ∀ (i : Nat) (v : Value), items[i]? = some v → ∃ t, v = .str (xs.getD i Str.empty) t := fun i v hv => SS.strs_at hi i v (by rw [Array.getElem?_toList]; exact hv)
        refine fill_texts ((Walks.list handled3 _ l apart items).toS) s.heap.objs.size away xs many (by omega) val items.size 0 _ rfl ⟨⟨_, Heap.get?_push_size _ rfl, rfl, rfl⟩, isq.push _⟩ ?_ fun s3 mv f3 => ?_
        · have still : ((s.heap.push (newSet led)).push { cls := .type "list_iterator", data := .fields #[.ref l, .int 0 0] }).get? s.heap.objs.size = some (newSet led) := Heap.get?_push_of_some _ laid
          exact fresh_few still
        · obtain ⟨h', g', d', tk', os'⟩ := s3
          obtain rfl : g' = s.gens := mv.gens
          obtain rfl : d' = s.drawn := mv.drawn
          obtain rfl : os' = s.os := mv.os
          show wpAny _ _ _ _ _ _
          refine wpAny_pure ?_
          show wpAny _ _ (ret Value.none) _ _ _
          refine wpAny_pure ⟨rfl, h', tk', rfl, by rw [many]; exact f3, fun b o hb e => mv.heap b o (fun z => ?_) (Heap.get?_push_of_some _ (Heap.get?_push_of_some _ e))⟩
          rcases List.mem_cons.mp z with z | z
          · exact absurd z (Nat.ne_of_lt hb)
          · rw [Heap.size_push] at z
            exact absurd (List.mem_singleton.mp z) (Nat.ne_of_lt (Nat.lt_succ_of_lt hb))
      · cases r2 with
        | error e => exact hr2
        | ok fl2 =>
          cases fl2 with
          | next => exact hr2.elim
          | brk => exact hr2.elim
          | cont => exact hr2.elim
          | ret v =>
            obtain ⟨rfl, h', tk, rfl, f, kp⟩ := hr2
            repeat (any_goals (first | assumption | wp_step))
            exact done _ _ f fun b o e => kp b o (Heap.lt_size e) e
set_option maxHeartbeats 8000000 in
theorem set_of_tuple {l : Addr} {items : Array Value} {xs : List Str} {Q : Value → Shared → Prop} (hh : A.handled = none) (hl : s.heap.IsTuple l items) (hi : StrsAre items.toList xs) (few : xs.length + 1 < scanBound)
    (done : ∀ (h' : Heap) (tk : Nat), FewOf P w h' s.heap.objs.size xs xs.length → (∀ b o, s.heap.get? b = some o → h'.get? b = some o) → Q (.ref s.heap.objs.size) { s with heap := h', toks := tk }) :
    wpAny (model P w) A (call (.type "set") [.ref l]) Q E s := by
  obtain ⟨c, tl, hmro⟩ := PySem.F.called_set.mro
  have g1 := PySem.F.called_set.made
  have g2 := PySem.F.called_set.sub
  have g3 := PySem.F.called_set.notType
  have g4 := PySem.F.called_set.canCreate
  have g5 := PySem.F.typeCall_set_1 (.ref l)
  refine wpAny_call (codeAny_of_tree (show wpAny _ _ (callAny (.type "set") _) _ _ _ from wpAny_pure ⟨Code.quiet_builtin _ (by decide +kernel), codeAny_builtin PySem.F.entry_type_call ?_⟩))
  rw [Around.under_plain (weight_type_call_type "set" [.ref l] []) rfl]
  repeat (any_goals (first | assumption | wp_step))
  refine codeAny_mono (code_set_new_1 (.ref l) (E := E) (Q₁ := fun v z => ∃ led : Bool, v = .ref s.heap.objs.size ∧ z = { s with heap := s.heap.push (newSet led) }) fun led => ⟨led, rfl, rfl⟩) fun r s1 hr => ?_
  cases r with
  | error e => exact hr
  | ok fl =>
    cases fl with
    | next => exact hr.elim
    | brk => exact hr.elim
    | cont => exact hr.elim
    | ret v =>
      obtain ⟨led, rfl, rfl⟩ := hr
      have laid : (s.heap.push (newSet led)).get? s.heap.objs.size = some (newSet led) := Heap.get?_push_size _ rfl
      have tyS : Shared.TypeIs { s with heap := s.heap.push (newSet led) } (.ref s.heap.objs.size) "set" := ⟨_, laid, rfl⟩
      have g6 := PySem.F.called_set.init.lookup
      have g7 := PySem.F.called_set.init.bind (.ref s.heap.objs.size)
      repeat (any_goals (first | assumption | wp_step))
      refine codeAny_mono (codeAny_call_builtin (R := wants (fun v z => v = .none ∧ ∃ h' tk, z = { s with heap := h', toks := tk } ∧ FewOf P w h' s.heap.objs.size xs xs.length ∧ ∀ b o, b < s.heap.objs.size → s.heap.get? b = some o → h'.get? b = some o) E)
        PySem.F.called_set.init.plain PySem.F.entry_set_init (check_set_init_1 tyS ?_)) fun r2 s2 hr2 => ?_
      · obtain ⟨⟨oc, od, dt, sl⟩, ho, hc, nl, hd⟩ := hl
        simp only at hc hd
        subst hc
        subst hd
        have there : (s.heap.push (newSet led)).get? l = some { cls := .type "tuple", dict := od, data := .seq items nl, slots := sl } := Heap.get?_push_of_some _ ho
        have g8 := PySem.F.sub_tuple_set
        have g9 := PySem.F.sub_tuple_frozenset
        have g10 : (Value.type "tuple" == Value.type "dict") = false := by decide
        have isq : (s.heap.push (newSet led)).IsTuple l items := ⟨_, there, rfl, nl, rfl⟩
        unfold Builtin.«set.__init__» noKeywords Builtin.Frozenset.updateFrom
        generalize hPI : pyIter = PI
        wp_walk
        subst hPI
        refine wpAny_pyIter_tuple isq (wpAny_bind (wpAny_runValue ?_))
        have below : l < s.heap.objs.size := Heap.lt_size ho
        have handled3 : A.in1.in1.in1.handled = none := by simp [hh]
        have apart : l ≠ (s.heap.push (newSet led)).objs.size := by
          rw [Heap.size_push]
          exact Nat.ne_of_lt (Nat.lt_succ_of_lt below)
        have away : ¬ s.heap.objs.size ∈ [(s.heap.push (newSet led)).objs.size, l] := by
          rw [Heap.size_push]
          intro z
          rcases List.mem_cons.mp z with z | z
          · exact absurd z (Nat.ne_of_lt (Nat.lt_succ_self _))
          · exact absurd (List.mem_singleton.mp z) (Nat.ne_of_gt below)
        have many : xs.length = items.size := by rw [← StrsAre.len_eq hi, Array.length_toList]
        have val : ∀ (i : Nat) (v : Value), items[i]? = some v → ∃ t, v = .str (xs.getD i Str.empty) t := fun i v hv => SS.strs_at hi i v (by rw [Array.getElem?_toList]; exact hv)
        refine fill_texts ((Walks.tuple handled3 _ l apart items).toS) s.heap.objs.size away xs many (by omega) val items.size 0 _ rfl ⟨⟨_, Heap.get?_push_size _ rfl, rfl, rfl⟩, isq.push _⟩ ?_ fun s3 mv f3 => ?_
        · have still : ((s.heap.push (newSet led)).push { cls := .type "tuple_iterator", data := .fields #[.ref l, .int 0 0] }).get? s.heap.objs.size = some (newSet led) := Heap.get?_push_of_some _ laid
          exact fresh_few still
        · obtain ⟨h', g', d', tk', os'⟩ := s3
          obtain rfl : g' = s.gens := mv.gens
          obtain rfl : d' = s.drawn := mv.drawn
          obtain rfl : os' = s.os := mv.os
          show wpAny _ _ _ _ _ _
          refine wpAny_pure ?_
          show wpAny _ _ (ret Value.none) _ _ _
          refine wpAny_pure ⟨rfl, h', tk', rfl, by rw [many]; exact f3, fun b o hb e => mv.heap b o (fun z => ?_) (Heap.get?_push_of_some _ (Heap.get?_push_of_some _ e))⟩
          rcases List.mem_cons.mp z with z | z
          · exact absurd z (Nat.ne_of_lt hb)
          · rw [Heap.size_push] at z
            exact absurd (List.mem_singleton.mp z) (Nat.ne_of_lt (Nat.lt_succ_of_lt hb))
      · cases r2 with
        | error e => exact hr2
        | ok fl2 =>
          cases fl2 with
          | next => exact hr2.elim
          | brk => exact hr2.elim
          | cont => exact hr2.elim
          | ret v =>
            obtain ⟨rfl, h', tk, rfl, f, kp⟩ := hr2
            repeat (any_goals (first | assumption | wp_step))
            exact done _ _ f fun b o e => kp b o (Heap.lt_size e) e
end
/-- the set of the words xs stands at p -/
def WordSet (P : Program) (w : World) (H : Hp) (p : Addr) (xs : List Str) : Prop := ∃ c, H p = some (SetK P w p (metK xs xs.length) c)
def rSetS (K : PySem.W.Frag) (P : Program) (w : World) : List V → Hp → VK → Prop := fun vs H Q => ∃ (a : Addr) (xs : List Str), vs = [.ref a] ∧ (SqL K H a (xs.map V.str) ∨ SqT K H a (xs.map V.str)) ∧ xs.length ≤ 1000 ∧ ∀ p H', Same H H' → WordSet P w H' p xs → Q (.ref p) H'
theorem strs_of : ∀ {xs : List Str} {us : List Value}, Vals (xs.map V.str) us → StrsAre us xs
  | [], _, .nil => .nil
  | x :: xs, _, .cons r t => by
    obtain ⟨k, rfl⟩ := r
    exact .cons x k (strs_of t)
theorem cr_setS {X : Cx} (hc : X.calm = true) : CallR X (.type "set") (rSetS X.K X.prog X.w) := by
  intro pins s σ H vs us Q I r h
  obtain ⟨a, xs, rfl, hq, hz, q⟩ := h
  obtain ⟨u, rfl, ru⟩ := vals1 r
  cases ru
  have few : xs.length + 1 < scanBound := Nat.lt_of_le_of_lt (Nat.succ_le_succ hz) (by decide)
  have fresh := I.hok.fresh (Nat.le_refl s.heap.objs.size)
  have fin : ∀ (h' : Heap) (tk : Nat), FewOf X.prog X.w h' s.heap.objs.size xs xs.length → (∀ b o, s.heap.get? b = some o → h'.get? b = some o) → EP X pins σ Q (.ref s.heap.objs.size) { s with heap := h', toks := tk } := fun h' tk ⟨c, _, hS⟩ kp =>
    ⟨.ref s.heap.objs.size, upd H s.heap.objs.size (SetK X.prog X.w s.heap.objs.size (metK xs xs.length) c), I.laid (t' := tk) kp (Nat.le_refl _) (setK_new hS), rfl, q _ _ (Ld.Same.new fresh) ⟨c, upd_same⟩⟩
  rcases hq with hq | hq
  · obtain ⟨its, rv, ⟨o, n, e, c, _, d⟩, _⟩ := I.list hq
    exact set_of_list (I.ok.hd hc) ⟨o, e, c, n, d⟩ (strs_of rv) few fin
  · obtain ⟨its, rv, ⟨o, e, c, n, d⟩, _⟩ := I.tuple hq
    exact set_of_tuple (I.ok.hd hc) ⟨o, e, c, n, d⟩ (strs_of rv) few fin
/-- word in set -/
def rInS (P : Program) (w : World) : R2 := fun x y H Q => ∃ (z : Str) (p : Addr) (xs : List Str), x = .str z ∧ y = .ref p ∧ WordSet P w H p xs ∧ Q (.bl (decide (z ∈ xs))) H
theorem metK_in (xs : List Str) (z : Str) : metK xs xs.length (Sum.inr z) = decide (z ∈ xs) := by
  unfold metK
  rw [List.take_length, Bool.eq_iff_iff]
  simp
theorem op_inWords {X : Cx} : OpR X (compareOp .In) (rInS X.prog X.w) := OpR.conv or_sinK fun x y H Q ⟨z, p, xs, e1, e2, ⟨c, h⟩, q⟩ => by
  refine ⟨Sum.inr z, p, _, c, e1, e2, h, ?_⟩
  show Q (.bl (metK xs xs.length (Sum.inr z))) H
  rw [metK_in]
  exact q
end Ld
/-! Order of tuples, texts many times, data of words. -/
namespace Ld
open PySem L2 PyProof.Rows
section
variable {X : Cx}
/-- a < b of data that is alike -/
def rLtD (K : PySem.W.Frag) : R2 := fun x y H Q => ∃ d e, Dp K H x d ∧ Dp K H y e ∧ PySem.W.alike d e = true ∧ d ≠ .none ∧ d.depth ≤ 64 ∧ Q (.bl (PySem.W.dataLt d e)) H
theorem op_ltD (hu : X.A.units + 64 < cLine) : OpR X (compareOp .Lt) (rLtD X.K) := by
  intro pins s σ H x y v u Q I rx ry h
  obtain ⟨d, e, hd, he, ha, hn, hp, q⟩ := h
  obtain ⟨as, r1⟩ := dp_reads I.hok I.kIn d x v hd rx
  obtain ⟨bs, r2⟩ := dp_reads I.hok I.kIn e y u he ry
  have m : min d.depth e.depth ≤ d.depth := Nat.min_le_left _ _
  exact PySem.W.rcLt_alike d e X.A s v u as bs r1 r2 ha hn (by omega) X.prog X.w X.xe _ ⟨.bl _, H, I, rfl, q⟩
/-- 'a' * n -/
def rMulS : R2 := fun x y H Q => ∃ (z : Str) (n : Nat), x = .str z ∧ y = .int (n : Int) ∧ z.length ≤ 1000 ∧ n ≤ 1000 ∧ Q (.str (Txt.mul z n)) H
theorem op_mulS : OpR X (binaryOp .Mult) rMulS := by
  intro pins s σ H x y v u Q I rx ry h
  obtain ⟨z, n, rfl, rfl, h1, h2, q⟩ := h
  obtain ⟨t, rfl⟩ := rx
  obtain ⟨t2, rfl⟩ := ry
  exact SB.mul (mulOk_of 1000 1000 h1 (by omega) (by omega) (by decide) (by decide)) fun t' k => ⟨.str _, H, I.tok k, ⟨t', rfl⟩, q⟩
/-- repr of a bool -/
def boolText (b : Bool) : Str := if b then "True" else "False"
theorem call_reprB : CallR X (.builtin "repr") (fun xs H Q => ∃ b, xs = [.bl b] ∧ Q (.str (boolText b)) H) := by
  intro pins s σ H xs us Q I r h
  obtain ⟨b, rfl, q⟩ := h
  obtain ⟨u, rfl, ru⟩ := vals1 r
  cases ru
  refine P.repr_of_bool ⟨.str (boolText b), H, I.tok _, ⟨s.toks, ?_⟩, q⟩
  unfold boolText
  cases b <;> rfl
end
section
variable {X : Cx} {K : PySem.W.Frag}
theorem sl_tupK (h : X.K = K := by rfl) : SlR X (rSlW K) := by
  subst h
  exact sl_tupW
def rTup (K : PySem.W.Frag) : List V → Hp → VK → Prop := fun xs H Q => ∃ p ys, xs = [.ref p] ∧ ((SqL K H p ys ∧ ∀ l, H l = none → Q (.ref l) (upd H l (.tup ys))) ∨ (SqT K H p ys ∧ Q (.ref p) H))
theorem call_tupK (h : X.K = K := by rfl) : CallR X (.type "tuple") (rTup K) := by
  subst h
  exact call_tuple_of
end
theorem boolText_inj (a b : Bool) : decide (V.str (boolText a) = V.str (boolText b)) = decide (a = b) := by
  cases a <;> cases b <;> decide +kernel
/-! ### tuples of words -/
def wt (ws : List Str) : PyData := .tuple (ws.map PyData.str)
theorem lay_words : ∀ {ws : List Str}, (∀ z ∈ ws, ∀ c ∈ z.cps.toList, c < 128) → PyData.canLayAll0 (ws.map PyData.str) = true
  | [], _ => rfl
  | z :: ws, h => by
    have h2 := lay_words fun y hy => h y (List.mem_cons_of_mem _ hy)
    have h1 : PyData.strOk z = true := by
      unfold PyData.strOk
      rw [arr_all]
      exact List.all_eq_true.mpr fun c hc => decide_eq_true (Nat.lt_trans (h z List.mem_cons_self c hc) (by decide))
    simp only [List.map_cons, PyData.canLayAll0, PyData.canLay0, h1, h2, Bool.and_self]
theorem depth_words : ∀ ws : List Str, PyData.depthAll (ws.map PyData.str) = 0
  | [] => rfl
  | z :: ws => by simp [PyData.depthAll, PyData.depth, depth_words ws]
theorem shaped_wt {ws : List Str} (h : ∀ z ∈ ws, ∀ c ∈ z.cps.toList, c < 128) : SeqAt.shaped (wt ws) = true := by
  unfold SeqAt.shaped wt
  simp only [PyData.canLay0, lay_words h, PyData.depth, depth_words]
  decide
theorem shaped_wl {ws : List Str} (h : ∀ z ∈ ws, ∀ c ∈ z.cps.toList, c < 128) : SeqAt.shaped (.list (ws.map PyData.str)) = true := by
  unfold SeqAt.shaped
  simp only [PyData.canLay0, lay_words h, PyData.depth, depth_words]
  decide
theorem eqv_words : ∀ ws us : List Str, PyData.eqvAll (ws.map PyData.str) (us.map PyData.str) = decide (ws = us)
  | [], [] => rfl
  | [], _ :: _ => rfl
  | _ :: _, [] => rfl
  | a :: ws, b :: us => by
    simp only [List.map_cons, PyData.eqvAll, eqv_words ws us, PyData.eqv]
    by_cases h1 : a = b
    · subst h1
      by_cases h2 : ws = us
      · subst h2
        simp
      · rw [decide_eq_false h2, decide_eq_false (fun e => h2 (List.cons.inj e).2), Bool.and_false]
    · have hb : (a == b) = false := beq_eq_false_iff_ne.mpr h1
      rw [decide_eq_false (fun e => h1 (List.cons.inj e).1)]
      first
        | rw [hb, Bool.false_and]
        | simp [hb, h1]
theorem eqv_wt (ws us : List Str) : PyData.eqv (wt ws) (wt us) = decide (ws = us) := by
  unfold wt
  simp only [PyData.eqv]
  exact eqv_words ws us
theorem eqv_wl (ws us : List Str) : PyData.eqv (.list (ws.map PyData.str)) (.list (us.map PyData.str)) = decide (ws = us) := by
  simp only [PyData.eqv]
  exact eqv_words ws us
/-! ### the order of addresses -/
def wordsLt : List Str → List Str → Bool
  | a :: ws, b :: us => if a = b then wordsLt ws us else decide (a.cps.toList < b.cps.toList)
  | [], b => !b.isEmpty
  | _ :: _, [] => false
def keyD (ws : List Str) : PyData := .tuple [.int ws.length, wt ws]
def keyLt (ws us : List Str) : Bool := if ws.length = us.length then wordsLt ws us else decide (ws.length < us.length)
theorem alike_words : ∀ ws us : List Str, PySem.W.alikeAll (ws.map PyData.str) (us.map PyData.str) = true
  | [], _ => by simp [PySem.W.alikeAll]
  | _ :: _, [] => by simp [PySem.W.alikeAll]
  | a :: ws, b :: us => by simp [PySem.W.alikeAll, PySem.W.alike, alike_words ws us]
theorem alike_key (ws us : List Str) : PySem.W.alike (keyD ws) (keyD us) = true := by
  simp [keyD, wt, PySem.W.alike, PySem.W.alikeAll, alike_words]
theorem cps_inj {a b : Str} (h : a.cps.toList = b.cps.toList) : a = b := PySem.W.str_of_cps h
theorem lt_words : ∀ ws us : List Str, lexLt itemOrd (PySem.W.keyToksAll (ws.map PyData.str)) (PySem.W.keyToksAll (us.map PyData.str)) = wordsLt ws us
  | [], [] => by decide
  | [], b :: us => by
    simp only [List.map_nil, List.map_cons, PySem.W.keyToksAll, wordsLt]
    rw [PySem.W.lex_atom (by decide)]
    rfl
  | a :: ws, [] => by
    simp only [List.map_nil, List.map_cons, PySem.W.keyToksAll, wordsLt]
    rw [PySem.W.lex_atom (by decide)]
    rfl
  | a :: ws, b :: us => by
    have al : PySem.W.alike (.str a) (.str b) = true := by simp [PySem.W.alike]
    unfold wordsLt
    by_cases h : a = b
    · subst h
      rw [if_pos rfl, List.map_cons, List.map_cons, PySem.W.dataLt_all_yes al (by simp [PyData.eqv])]
      exact lt_words ws us
    · rw [if_neg h, List.map_cons, List.map_cons, PySem.W.dataLt_all_no al (by simp [PyData.eqv, h]), PySem.W.dataLt_str]
theorem wordsLt_self : ∀ ws : List Str, wordsLt ws ws = false
  | [] => rfl
  | a :: ws => by
    unfold wordsLt
    rw [if_pos rfl]
    exact wordsLt_self ws
theorem lt_key (ws us : List Str) : PySem.W.dataLt (keyD ws) (keyD us) = keyLt ws us := by
  unfold keyD keyLt
  rw [PySem.W.dataLt_tuple]
  have al : PySem.W.alike (.int (ws.length : Int)) (.int (us.length : Int)) = true := by simp [PySem.W.alike]
  have al2 : PySem.W.alike (wt ws) (wt us) = true := by simp [wt, PySem.W.alike, alike_words]
  by_cases h : ws.length = us.length
  · rw [if_pos h, PySem.W.dataLt_all_yes al (by simp [PyData.eqv, h])]
    by_cases h2 : ws = us
    · subst h2
      rw [PySem.W.dataLt_all_yes al2 (by rw [eqv_wt]; simp)]
      rw [wordsLt_self]
      decide
    · rw [PySem.W.dataLt_all_no al2 (by rw [eqv_wt]; exact decide_eq_false h2)]
      unfold wt
      rw [PySem.W.dataLt_tuple]
      exact lt_words ws us
  · rw [if_neg h, PySem.W.dataLt_all_no al (by simp [PyData.eqv]; omega), PySem.W.dataLt_int]
    by_cases h3 : ws.length < us.length
    · rw [decide_eq_true h3, decide_eq_true (by omega)]
    · rw [decide_eq_false h3, decide_eq_false (by omega)]
end Ld
/-! The least words, one behind the other. -/
namespace Ld
open PySem L2 PyProof.Rows
def abcS : Str := Str.ofString "abcdefghijklmnopqrstuvwxyz"
def lastOf (z : Str) : Nat := z.cps.toList.getLastD 0
def keptW (z : Str) : Str := Txt.rstripChars z (Str.ofString "z")
def nextW (z : Str) : Str := if z.length < 12 then z ++ Str.ofString "a" else cutS (keptW z) none (some (-1)) ++ ⟨#[lastOf (keptW z) + 1]⟩
def seqW : Nat → Str
  | 0 => Str.ofString "a"
  | i + 1 => nextW (seqW i)
/-- what the steps ask of the first forty words -/
def stepOk (z : Str) : Bool := decide (z.length ≤ 12) && (decide (z.length < 12) || (decide ((keptW z).length ≤ 12) && decide (0 < (keptW z).length) && decide (97 ≤ lastOf (keptW z)) && decide (lastOf (keptW z) < 122) &&
  decide (atI (keptW z).cps.toList (-1) = some (lastOf (keptW z))) && decide (Builtin.Str.occurrences abcS ⟨#[lastOf (keptW z)]⟩ 0 abcS.length 1 = [lastOf (keptW z) - 97]) && decide (atI abcS.cps.toList ((lastOf (keptW z) - 97 : Nat) + 1 : Int) = some (lastOf (keptW z) + 1))))
theorem steps_ok : (List.range 40).all (fun i => stepOk (seqW i)) = true := by decide +kernel
theorem step_ok {i : Nat} (h : i < 40) : stepOk (seqW i) = true := List.all_eq_true.mp steps_ok i (List.mem_range.mpr h)
theorem seq_apart : (List.range 41).all (fun i => (List.range 41).all fun j => decide (i = j) || !decide (seqW i = seqW j)) = true := by decide +kernel
theorem seq_inj {i j : Nat} (hi : i < 41) (hj : j < 41) (e : seqW i = seqW j) : i = j := by
  have h := List.all_eq_true.mp (List.all_eq_true.mp seq_apart i (List.mem_range.mpr hi)) j (List.mem_range.mpr hj)
  by_cases q : i = j
  · exact q
  · rw [decide_eq_false q, decide_eq_true e] at h
    cases h
structure Step (z : Str) : Prop where
  len : z.length ≤ 12
  far : ¬ z.length < 12 → (keptW z).length ≤ 12 ∧ atI (keptW z).cps.toList (-1) = some (lastOf (keptW z)) ∧ Builtin.Str.occurrences abcS ⟨#[lastOf (keptW z)]⟩ 0 abcS.length 1 = [lastOf (keptW z) - 97] ∧
    atI abcS.cps.toList ((lastOf (keptW z) - 97 : Nat) + 1 : Int) = some (lastOf (keptW z) + 1)
theorem step_of {i : Nat} (h : i < 40) : Step (seqW i) := by
  have q := step_ok h
  unfold stepOk at q
  simp only [Bool.and_eq_true, Bool.or_eq_true, decide_eq_true_eq] at q
  refine ⟨q.1, fun n => ?_⟩
  rcases q.2 with q | q
  · exact absurd q n
  · exact ⟨q.1.1.1.1.1.1, q.1.1.2, q.1.2, q.2⟩
theorem cutS_len {z : Str} (h : z.length ≤ 12) : (cutS z none (some (-1))).length ≤ 12 := Nat.le_trans (cutS_length z none (some (-1))) h
/-! as many different things as a list holds -/
theorem few_of {α : Type} [DecidableEq α] : ∀ (l m : List α), l.Nodup → (∀ x ∈ l, x ∈ m) → l.length ≤ m.length
  | [], _, _, _ => Nat.zero_le _
  | a :: l, m, nd, h => by
    obtain ⟨h1, h2⟩ := List.nodup_cons.mp nd
    have hm := h a List.mem_cons_self
    have q := few_of l (m.erase a) h2 fun x hx => by
      have ne : x ≠ a := fun e => h1 (e ▸ hx)
      exact (List.mem_erase_of_ne ne).mpr (h x (List.mem_cons_of_mem _ hx))
    have e := List.length_erase_of_mem hm
    have p : 0 < m.length := List.length_pos_of_mem hm
    simp only [List.length_cons]
    omega
theorem seq_nodup : ∀ n : Nat, n ≤ 41 → ((List.range n).map seqW).Nodup := fun n hn => by
  rw [List.nodup_iff_pairwise_ne, List.pairwise_map]
  have := List.nodup_range (n := n)
  rw [List.nodup_iff_pairwise_ne] at this
  refine this.imp_of_mem fun {i j} hi hj ne e => ne (seq_inj (Nat.lt_of_lt_of_le (List.mem_range.mp hi) hn) (Nat.lt_of_lt_of_le (List.mem_range.mp hj) hn) e)
/-- all words ahead of the i-th are in xs: then they are no more than xs has -/
theorem ahead_few {xs : List Str} {i : Nat} (hi : i ≤ 41) (h : ∀ j < i, seqW j ∈ xs) : i ≤ xs.length := by
  have := few_of ((List.range i).map seqW) xs (seq_nodup i hi) fun x hx => by
    obtain ⟨j, hj, rfl⟩ := List.mem_map.mp hx
    exact h j (List.mem_range.mp hj)
  simpa using this
/-- the strange word is told by what it is -/
structure Odd (xs : List Str) (m : Nat) : Prop where
  lt : m ≤ xs.length
  out : ¬ seqW m ∈ xs
  all : ∀ j < m, seqW j ∈ xs
theorem Odd.one {xs : List Str} {m n : Nat} (a : Odd xs m) (b : Odd xs n) : m = n := by
  rcases Nat.lt_trichotomy m n with h | h | h
  · exact absurd (b.all m h) a.out
  · exact h
  · exact absurd (a.all n h) b.out
end Ld
namespace K2
open PySem L2 Ld
def top (i : Nat) : Stmt := PySem.Challenge.pw_leadsever_k02_order_and_beginnings.main.body.getD i (.Pass ⟨0, 0, 0, 0⟩)
abbrev sBegins : Stmt := top 3
abbrev sRest : Stmt := top 4
abbrev sKey : Stmt := top 5
abbrev sBegs : Stmt := top 6
abbrev sStrange : Stmt := top 7
abbrev sNext : Stmt := top 8
/-- what is left of the top -/
structure Tx (mg : Str → Option Value) : Prop where
  isi : mg "isinstance" = none
  int : mg "int" = none
  tuple : mg "tuple" = none
  list : mg "list" = none
  len : mg "len" = none
  range : mg "range" = none
  repr : mg "repr" = none
  max : mg "max" = none
  min : mg "min" = none
  set : mg "set" = none
  zip : mg "zip" = none
  ls : ∃ t, mg "LETTERS" = some (.str abcS t)
  wl : ∃ t, mg "WORD_LETTERS" = some (.int 12 t)
section
variable {P : Program} {w : World} {K : PySem.W.Frag} {mg : Str → Option Value} {base : Heap} {f : Addr} {fd : FuncData}
/-- an address of the law's words -/
def Mw (z : Str) : Prop := z.length ≤ 12 ∧ ∀ c ∈ z.cps.toList, c < 128
def Adr (ws : List Str) : Prop := ws.length ≤ 12 ∧ ∀ z ∈ ws, Mw z
theorem Adr.asc {ws : List Str} (h : Adr ws) : ∀ z ∈ ws, ∀ c ∈ z.cps.toList, c < 128 := fun z hz => (h.2 z hz).2
theorem Adr.take {ws : List Str} (h : Adr ws) (k : Nat) : Adr (ws.take k) := ⟨Nat.le_trans (List.length_take_le' k ws) h.1, fun z hz => h.2 z (List.mem_of_mem_take hz)⟩
theorem Adr.drop {ws : List Str} (h : Adr ws) (k : Nat) : Adr (ws.drop k) := ⟨Nat.le_trans (by simp) h.1, fun z hz => h.2 z (List.mem_of_mem_drop hz)⟩
theorem cut_lo (ws : List Str) (k : Nat) : cutV (ws.map V.str) none (some (k : Int)) = (ws.take k).map V.str := by
  unfold cutV
  rw [HT.sIx_none, HT.sIx_nat, List.drop_zero, Nat.sub_zero, List.length_map, ← List.map_take]
  by_cases h : k ≤ ws.length
  · rw [Nat.min_eq_left h]
  · rw [Nat.min_eq_right (by omega), List.take_of_length_le (Nat.le_refl _), List.take_of_length_le (by omega)]
theorem cut_hi (ws : List Str) (k : Nat) : cutV (ws.map V.str) (some (k : Int)) none = (ws.drop k).map V.str := by
  unfold cutV
  rw [HT.sIx_none, HT.sIx_nat, List.length_map]
  by_cases h : k ≤ ws.length
  · rw [Nat.min_eq_left h, ← List.map_drop, List.take_of_length_le (by simp)]
  · rw [Nat.min_eq_right (by omega), ← List.map_drop, List.drop_of_length_le (Nat.le_refl _), List.drop_of_length_le (by omega)]
    simp
theorem dp_wt {H : Hp} {a : Addr} {ws : List Str} (h : SqT K H a (ws.map V.str)) : Dp K H (.ref a) (wt ws) := .tup h (dp_strs ws)
def spBegins (K : PySem.W.Frag) : Sp := fun vs H Q _ => ∃ (a b : Addr) (ws us : List Str), vs = [.ref a, .ref b] ∧ SqT K H a (ws.map V.str) ∧ SqT K H b (us.map V.str) ∧ Adr ws ∧ Adr us ∧ ∀ H', Same H H' → Q (.bl (decide (ws.take us.length = us))) H'
theorem scBegins : FnScope ["address", "beginning"] ["address", "beginning"] (defScope sBegins) := ⟨rfl, rfl, rfl, by decide +kernel, rfl, by decide +kernel, by decide +kernel⟩
theorem ok_begins (Fd : Fun K "begins" "begins" sBegins f fd) (T : Tx mg) : FnOk P w K mg base CX0 1 f fd ["address", "beginning"] (spBegins K) := by
  refine Fd.ok scBegins (fun vs H Q E h => ?_) (fun cdv A outer s H vs Q E hr h => ?_)
  · obtain ⟨a, b, ws, us, rfl, _⟩ := h
    rfl
  · obtain ⟨a, b, ws, us, rfl, ha, hb, aw, au, q⟩ := h
    refine ⟨_, pss_one (ps_ret (pe_cmpR (op_eqD hr.units) (pe_callTy call_tuple_of (by rfl) T.tuple (by decide +kernel) (pa_cons (pe_slice sl_tupW (pv 0) po_none (po_some (pe_callB call_len_seq (by rfl) T.len PySem.boot_len (pa_cons (pv 1) pa_nil)))) pa_nil))
      (pe_callTy call_tuple_of (by rfl) T.tuple (by decide +kernel) (pa_cons (pv 1) pa_nil)) (nomark _))), ?_⟩
    refine ⟨_, rfl, _, rfl, b, _, rfl, .inr hb, _, rfl, a, _, rfl, ha, fun r H1 s1 h1 => ?_⟩
    rw [List.length_map, cut_lo] at h1
    refine ⟨r, _, rfl, .inr ⟨h1, ?_⟩⟩
    refine ⟨_, rfl, b, _, rfl, .inr ⟨same_T s1 hb, ?_⟩⟩
    refine ⟨_, _, dp_wt h1, dp_wt (same_T s1 hb), shaped_wt (aw.take _).asc, shaped_wt au.asc, ?_⟩
    rw [eqv_wt]
    exact q H1 s1
def spRest (K : PySem.W.Frag) : Sp := fun vs H Q _ => ∃ (a b : Addr) (ws us : List Str), vs = [.ref a, .ref b] ∧ SqT K H a (ws.map V.str) ∧ SqT K H b (us.map V.str) ∧ ∀ r H', Same H H' → SqT K H' r ((ws.drop us.length).map V.str) → Q (.ref r) H'
theorem scRest : FnScope ["address", "beginning"] ["address", "beginning"] (defScope sRest) := ⟨rfl, rfl, rfl, by decide +kernel, rfl, by decide +kernel, by decide +kernel⟩
theorem ok_rest (Fd : Fun K "rest_of" "rest_of" sRest f fd) (T : Tx mg) : FnOk P w K mg base CX0 1 f fd ["address", "beginning"] (spRest K) := by
  refine Fd.ok scRest (fun vs H Q E h => ?_) (fun cdv A outer s H vs Q E hr h => ?_)
  · obtain ⟨a, b, ws, us, rfl, _⟩ := h
    rfl
  · obtain ⟨a, b, ws, us, rfl, ha, hb, q⟩ := h
    refine ⟨_, pss_one (ps_ret (pe_callTy call_tuple_of (by rfl) T.tuple (by decide +kernel) (pa_cons (pe_callTy call_list_of (by rfl) T.list (by decide +kernel) (pa_cons (pe_slice sl_tupW (pv 0) (po_some (pe_callB call_len_seq (by rfl) T.len PySem.boot_len (pa_cons (pv 1) pa_nil))) po_none) pa_nil)) pa_nil))), ?_⟩
    refine ⟨_, rfl, _, rfl, b, _, rfl, .inr hb, _, rfl, a, _, rfl, ha, fun r H1 s1 h1 => ?_⟩
    rw [List.length_map, cut_hi] at h1
    refine ⟨r, _, rfl, .inr h1, fun l hl => ?_⟩
    refine ⟨l, _, rfl, .inl ⟨.of upd_same, fun p hp => ?_⟩⟩
    exact q p _ (s1.trans ((Ld.Same.new hl).trans (Ld.Same.new hp))) (.of upd_same)
def spKey (K : PySem.W.Frag) : Sp := fun vs H Q _ => ∃ (a : Addr) (ws : List Str), vs = [.ref a] ∧ SqT K H a (ws.map V.str) ∧ ∀ r H', Same H H' → Dp K H' (.ref r) (keyD ws) → Q (.ref r) H'
theorem scKey : FnScope ["address"] ["address"] (defScope sKey) := ⟨rfl, rfl, rfl, by decide +kernel, rfl, by decide +kernel, by decide +kernel⟩
theorem ok_key (Fd : Fun K "address_key" "address_key" sKey f fd) (T : Tx mg) : FnOk P w K mg base CX0 1 f fd ["address"] (spKey K) := by
  refine Fd.ok scKey (fun vs H Q E h => ?_) (fun cdv A outer s H vs Q E hr h => ?_)
  · obtain ⟨a, ws, rfl, _⟩ := h
    rfl
  · obtain ⟨a, ws, rfl, ha, q⟩ := h
    refine ⟨_, pss_one (ps_ret (pe_tup (pa_cons (pe_callB call_len_seq (by rfl) T.len PySem.boot_len (pa_cons (pv 0) pa_nil)) (pa_cons (pe_callTy call_tuple_of (by rfl) T.tuple (by decide +kernel) (pa_cons (pv 0) pa_nil)) pa_nil)))), ?_⟩
    refine ⟨_, rfl, a, _, rfl, .inr ha, _, rfl, a, _, rfl, .inr ⟨ha, (show 2 ≤ sizeLine by decide), fun p hp => ?_⟩⟩
    have s1 := Same.new (o := .tup [.int (((ws.map V.str).length : Nat) : Int), .ref a]) hp
    refine q p _ s1 ?_
    rw [List.length_map]
    exact .tup (.of upd_same) (.cons (.int _) (.cons (dp_wt (same_T (by rw [List.length_map] at s1; exact s1) ha)) .nil))
/-- the beginnings, as data -/
def begD (ws : List Str) (n : Nat) : List PyData := (List.range n).map fun k => wt (ws.take k)
/-- tuples that stand -/
def Tups (K : PySem.W.Frag) (H : Hp) (ps : List Addr) (ws : List Str) : Prop := ∀ (j : Nat) (p : Addr), ps[j]? = some p → SqT K H p ((ws.take j).map V.str)
theorem tups_dp {H : Hp} {ws : List Str} : ∀ {ps : List Addr} {k : Nat}, (∀ (j : Nat) (p : Addr), ps[j]? = some p → SqT K H p ((ws.take (k + j)).map V.str)) → DpAll K H (ps.map V.ref) ((List.range' k ps.length).map fun k => wt (ws.take k))
  | [], k, _ => .nil
  | p :: ps, k, h => by
    show DpAll K H (V.ref p :: ps.map V.ref) ((List.range' k (ps.length + 1)).map fun k => wt (ws.take k))
    rw [List.range'_succ, List.map_cons]
    exact .cons (dp_wt (h 0 p rfl)) (tups_dp fun j q e => by
      have := h (j + 1) q (by simpa using e)
      rw [show k + (j + 1) = k + 1 + j from by omega] at this
      exact this)
theorem tups_beg {H : Hp} {ws : List Str} {ps : List Addr} (h : Tups K H ps ws) : DpAll K H (ps.map V.ref) (begD ws ps.length) := by
  unfold begD
  rw [List.range_eq_range']
  exact tups_dp (k := 0) fun j p e => by rw [Nat.zero_add]; exact h j p e
theorem sqT_list {H : Hp} {D p : Addr} {acc acc' xs : List V} (hD : H D = some (.lst acc)) (h : SqT K H p xs) : SqT K (upd H D (.lst acc')) p xs := by
  rcases h with (h | ⟨o, h⟩) | h
  · refine .inl (.inl ?_)
    rw [upd_ne (ne_of h hD (fun e => nomatch e))]
    exact h
  · refine .inl (.inr ⟨o, ?_⟩)
    rw [upd_ne (ne_of h hD (fun e => nomatch e))]
    exact h
  · exact .inr h
def spBegs (K : PySem.W.Frag) : Sp := fun vs H Q _ => ∃ (a : Addr) (ws : List Str), vs = [.ref a] ∧ SqT K H a (ws.map V.str) ∧ ws.length ≤ 12 ∧ ∀ r H', Same H H' → Dp K H' (.ref r) (.list (begD ws (ws.length + 1))) → Q (.ref r) H'
theorem scBegs : FnScope ["address", "size"] ["address"] (defScope sBegs) := ⟨rfl, rfl, rfl, by decide +kernel, rfl, by decide +kernel, by decide +kernel⟩
theorem ok_begs (Fd : Fun K "beginnings" "beginnings" sBegs f fd) (T : Tx mg) : FnOk P w K mg base CX0 1 f fd ["address"] (spBegs K) := by
  refine Fd.ok scBegs (fun vs H Q E h => ?_) (fun cdv A outer s H vs Q E hr h => ?_)
  · obtain ⟨a, ws, rfl, _⟩ := h
    rfl
  · obtain ⟨a, ws, rfl, ha, hl, q⟩ := h
    refine ⟨_, pss_one (ps_ret (pe_lc (own := [("size", 1)]) (g := gName 1) (tt := tYes) (by rfl) scBegs.nd (pi_range1 rfl T.range (pa_cons (pe_op op_add (pe_callB call_len_seq (by rfl) T.len PySem.boot_len (pa_cons (pv 0) pa_nil)) pe_int) pa_nil))
      (blkOk_by (own := [("size", 1)]) (N := ["address", "size"]) (sc := defScope sBegs) (by decide +kernel)) (fun _ _ _ _ _ => pg_name (i := 1) scBegs.nd rfl (Or.inl rfl)) (fun _ _ _ _ _ => pts_nil)
      (fun _ _ _ _ _ => pe_callTy (T := "tuple") (r := rTup K) call_tupK (by rfl) T.tuple (by decide +kernel) (pa_cons (pe_slice (r := rSlW K) sl_tupK (pv 0) po_none (po_some (pv 1))) pa_nil)))), ?_⟩
    refine ⟨_, rfl, a, _, rfl, .inr ha, _, _, rfl, rfl, _, rfl, by omega, by rw [List.length_map]; omega, fun D hD => ?_⟩
    refine lc_range (lo := 0) (n := ((((ws.map V.str).length : Nat) : Int) + 1).toNat) (fun i G => Same H G ∧ ∃ ps : List Addr, G D = some (.lst (ps.map V.ref)) ∧ ps.length = i ∧ Tups K G ps ws) ⟨Ld.Same.new hD, [], upd_same, rfl, fun j p e => nomatch e⟩ ?_ ?_
    · rintro i G hi ⟨s1, ps, hp, hn, ht⟩
      rw [List.length_map] at hi
      refine ⟨rfl, ?_⟩
      show tCB (rTup K) (tCons (tSl (rSlW K) (tVar 0) tNoPart (tPart (tVar 1))) tNil) _ _ _
      refine ⟨_, rfl, _, rfl, _, rfl, a, _, rfl, same_T s1 ha, fun r G2 s2 h2 => ?_⟩
      rw [Int.zero_add, cut_lo] at h2
      refine ⟨r, _, rfl, .inr ⟨h2, _, s2 _ _ hp, by rw [List.length_map]; exact Nat.lt_of_le_of_lt (show ps.length ≤ 13 by omega) (by decide), fun b o e => ?_, ps ++ [r], ?_, by simp [hn], ?_⟩⟩
      · rw [upd_ne (ne_of_none e hD)]
        exact s2 _ _ (s1 b o e)
      · rw [upd_same, List.map_append]
        rfl
      · intro j p e
        by_cases hj : j < ps.length
        · rw [List.getElem?_append_left hj] at e
          exact sqT_list (s2 _ _ hp) (same_T s2 (ht j p e))
        · have hj2 : j = ps.length := by
            have := (List.getElem?_eq_some_iff.mp e).1
            simp at this
            omega
          subst hj2
          rw [List.getElem?_append_right (Nat.le_refl _), Nat.sub_self] at e
          cases e
          rw [hn]
          exact sqT_list (s2 _ _ hp) h2
    · rintro G ⟨s1, ps, hp, hn, ht⟩
      rw [List.length_map] at hn
      have e : ps.length = ws.length + 1 := by omega
      refine q D G s1 (.lst (.of hp) ?_)
      rw [← e]
      exact tups_beg ht
def spNext : Sp := fun vs H Q _ => ∃ i : Nat, vs = [.str (seqW i)] ∧ i < 40 ∧ Q (.str (seqW (i + 1))) H
theorem scNext : FnScope ["word", "kept"] ["word"] (defScope sNext) := ⟨rfl, rfl, rfl, by decide +kernel, rfl, by decide +kernel, by decide +kernel⟩
theorem one_a : (⟨#[97]⟩ : Str) = Str.ofString "a" := by decide +kernel
theorem one_z : (⟨#[122]⟩ : Str) = Str.ofString "z" := by decide +kernel
theorem abc_0 : atI abcS.cps.toList 0 = some 97 := by decide +kernel
theorem abc_1 : atI abcS.cps.toList (-1) = some 122 := by decide +kernel
theorem abc_len : abcS.length ≤ sizeLine := by decide +kernel
theorem next_near {z : Str} (h : z.length < 12) : nextW z = z ++ Str.ofString "a" := if_pos h
theorem next_far {z : Str} (h : ¬ z.length < 12) : nextW z = cutS (keptW z) none (some (-1)) ++ ⟨#[lastOf (keptW z) + 1]⟩ := if_neg h
theorem a_len : (Str.ofString "a").length = 1 := by decide +kernel
theorem ok_next (Fd : Fun K "_next_word" "_next_word" sNext f fd) (T : Tx mg) : FnOk P w K mg base CX0 1 f fd ["word"] spNext := by
  refine Fd.ok scNext (fun vs H Q E h => ?_) (fun cdv A outer s H vs Q E hr h => ?_)
  · obtain ⟨i, rfl, _⟩ := h
    rfl
  · obtain ⟨i, rfl, hi, q⟩ := h
    obtain ⟨t1, hl⟩ := T.ls
    obtain ⟨t2, hw⟩ := T.wl
    have S := step_of hi
    have q : Q (.str (nextW (seqW i))) H := q
    generalize seqW i = z at S q
    refine ⟨_, pss_cons (ps_if (pt_cmpR op_lt (pe_callB call_len_str (by rfl) T.len PySem.boot_len (pa_cons (pv 0) pa_nil)) (pe_glob (v := .int 12) (by rfl) hw ⟨_, rfl⟩) (nomark _))
        (pss_one (ps_ret (pe_op op_add_str (pv 0) (pe_ix ix_str (pe_glob (v := .str abcS) (by rfl) hl ⟨_, rfl⟩) pe_int (fun _ _ => rfl))))) pss_nil)
      (pss_cons (ps_set (i := 1) scNext.nd rfl (Or.inl rfl) (pe_m1 PySem.F.slot_str_rstrip PySem.F.type_str_rstrip mt_rstripChars (pv 0) (pe_ix ix_str (pe_glob (v := .str abcS) (by rfl) hl ⟨_, rfl⟩) (pe_un un_neg pe_int) (fun _ _ => rfl))))
      (pss_one (ps_ret (pe_op op_add_str (pe_slice sl_str (pv 1) po_none (po_some (pe_un un_neg pe_int))) (pe_ix ix_str (pe_glob (v := .str abcS) (by rfl) hl ⟨_, rfl⟩) (pe_op op_add (pe_m1 PySem.F.slot_str_index PySem.F.type_str_index mt_sindex
          (pe_glob (v := .str abcS) (by rfl) hl ⟨_, rfl⟩) (pe_ix ix_str (pv 1) (pe_un un_neg pe_int) (fun _ _ => rfl))) pe_int) (fun _ _ => rfl)))))), ?_⟩
    have big : z.length ≤ sizeLine := Nat.le_trans S.len (by decide)
    refine ⟨_, rfl, _, rfl, big, _, _, rfl, rfl, _, rfl, ?_⟩
    by_cases hz : (z.length : Int) < 12
    · rw [decide_eq_true hz]
      refine iteT ⟨_, rfl, _, _, _, rfl, rfl, abc_len, abc_0, ?_⟩
      rw [one_a]
      refine ⟨_, _, rfl, rfl, ?_, ?_⟩
      · have := S.len
        rw [a_len, sizeLine_eq]
        omega
      · rw [next_near (by omega)] at q
        exact q
    · rw [decide_eq_false hz]
      have hz : ¬ z.length < 12 := by omega
      obtain ⟨k1, k2, k3, k4⟩ := S.far hz
      have kbig : (keptW z).length ≤ sizeLine := Nat.le_trans k1 (by decide)
      refine iteF ⟨_, rfl, ⟨_, rfl⟩, _, rfl, _, _, _, rfl, rfl, abc_len, abc_1, ?_⟩
      rw [one_z]
      refine ⟨_, _, rfl, rfl, big, ?_⟩
      refine ⟨_, rfl, _, rfl, _, rfl, _, rfl, kbig, ⟨_, rfl⟩, _, rfl, _, rfl, _, _, _, rfl, rfl, kbig, k2, ?_⟩
      refine ⟨_, _, _, [], rfl, rfl, k3, _, _, rfl, rfl, _, _, _, rfl, rfl, abc_len, k4, ?_⟩
      refine ⟨_, _, rfl, rfl, ?_, ?_⟩
      · have := cutS_len k1
        have e : (⟨#[lastOf (keptW z) + 1]⟩ : Str).length = 1 := rfl
        rw [e, sizeLine_eq]
        exact Nat.le_trans (Nat.add_le_add_right this 1) (by decide)
      · rw [next_far hz] at q
        exact q
end
end K2
namespace K2
open PySem L2 Ld
abbrev sWell : Stmt := top 10
abbrev sDraw : Stmt := top 11
abbrev sChoose : Stmt := top 12
section
variable {P : Program} {w : World} {K : PySem.W.Frag} {mg : Str → Option Value} {base : Heap} {f : Addr} {fd : FuncData}
def spWell (K : PySem.W.Frag) : Sp := fun vs H Q _ => ∃ (a : Addr) (ns : List Int) (j : Int) (B : Nat), vs = [.ref a, .int j] ∧ SqL K H a (ns.map V.int) ∧ ns.length ≤ 63 ∧ 60 ≤ B ∧ B ≤ 2000000 ∧ (∀ z ∈ ns, Builtin.Int.intBits z ≤ B) ∧ 0 ≤ j ∧ j < 100 ∧
  ∀ wa H', H wa = none → Well H' wa → Same H H' → Q (.ref wa) H'
theorem scWell : FnScope ["_law_script", "_law_start", "_law_mixed", "_law_entry", "_law_digits"] ["_law_script", "_law_start"] (defScope sWell) := ⟨rfl, rfl, rfl, by decide +kernel, rfl, by decide +kernel, by decide +kernel⟩
theorem ok_well (Fd : Fun K "_law_well" "_law_well" sWell f fd) (T : Tx mg) : FnOk P w K mg base CX0 1 f fd ["_law_script", "_law_start"] (spWell K) := by
  refine Fd.ok scWell (fun vs H Q E h => ?_) (fun cdv A outer s H vs Q E hr h => ?_)
  · obtain ⟨a, ns, j, B, rfl, _⟩ := h
    rfl
  · obtain ⟨a, ns, j, B, rfl, hS, hlen, hB, hB2, hb, hj0, hj, q⟩ := h
    refine ⟨_, pss_cons (ps_set (i := 2) scWell.nd rfl (Or.inl rfl) (pe_op op_add pe_int (pe_op op_mul (pv 1) pe_int)))
      (pss_cons (ps_for PassesOwn.never rfl (pi_list (pv 0)) (pg_name (i := 3) scWell.nd rfl (Or.inl rfl))
        (pss_one (ps_set (i := 2) scWell.nd rfl (Or.inl rfl) (pe_op op_add (pe_op op_mod (pe_callTy call_int1 (by rfl) T.int (by decide +kernel) (pa_cons (pe_op op_powB (pe_op op_add (pe_op op_add (pe_op op_mulB (pv 2) pe_int) (pe_op op_mulB (pv 3) (pv 3))) pe_int) pe_int) pa_nil)) pe_int) pe_int))))
      (pss_cons (ps_set (i := 4) scWell.nd rfl (Or.inl rfl) (pe_ifExp (PW.pt (pw_and (pt_cmpR op_lt (pv 1) (pe_callB call_len_seq (by rfl) T.len PySem.boot_len (pa_cons (pv 0) pa_nil)) (nomark _))
          (pw_and1 (pt_cmpR op_ge (pe_ix ix_list (pv 0) (pv 1) (fun _ _ => rfl)) (pe_op op_pow pe_int pe_int) (nomark _)))))
          (pe_op op_sub (pe_ix ix_list (pv 0) (pv 1) (fun _ _ => rfl)) (pe_op op_pow pe_int pe_int)) pe_int))
      (pss_one (ps_ret (pe_disp (pps_cons pe_str (pv 4) (pps_cons pe_str (pv 2) pps_nil)) (by rfl) (by rfl) (fun z => by cases z) (by decide)))))), ?_⟩
    refine ⟨_, rfl, _, _, rfl, rfl, .inr ⟨by decide, by decide⟩, _, _, rfl, rfl, ?_⟩
    refine ⟨_, rfl, a, rfl, ⟨_, hS⟩, for_list (K := K) (a := a) (xs := ns.map V.int) (fun i σ H2 => H2 = H ∧ ∃ (m : Int) (u : Option V), σ = [some (.ref a), some (.int j), some (.int m), u, none] ∧ 0 ≤ m ∧ m < 2 ^ 40)
      ⟨rfl, _, none, rfl, by omega, by omega⟩ (fun i σ H2 _ h => by rw [h.1]; exact hS) ?_ ?_⟩
    · rintro i y σ H2 hi ⟨rfl, m, u, rfl, h0, h1⟩
      obtain ⟨z, hz, rfl⟩ := list_get hi
      have bz := hb z (List.mem_of_getElem? hz)
      have hm := mul_small (c := 70019) h0 h1 (by decide) (by decide)
      have hw := sq_wide (of_bits bz) hm hB
      have hbw := bits_of hw
      refine ⟨_, rfl, _, _, rfl, rfl, ?_, _, rfl, _, rfl, _, _, rfl, rfl, ?_, _, _, rfl, rfl, _, _, rfl, rfl, _, _, rfl, rfl, ?_, .inl ⟨_, rfl, _, _, rfl, rfl, (show (0 : Int) < 2147483489 by decide), _, _, rfl, rfl, ?_⟩⟩
      · have := bits_small h0 h1
        show Builtin.Int.intBits m + Builtin.Int.intBits 70019 ≤ 2 ^ 27
        have e : Builtin.Int.intBits 70019 ≤ 17 := by decide +kernel
        omega
      · show Builtin.Int.intBits z + Builtin.Int.intBits z ≤ 2 ^ 27
        omega
      · refine ⟨by decide, ?_⟩
        omega
      · refine ⟨rfl, _, _, rfl, ?_, ?_⟩
        · have := Int.emod_nonneg ((m * 70019 + z * z + 59) ^ (2 : Int).toNat) (show (2147483489 : Int) ≠ 0 by decide)
          omega
        · have := Int.emod_lt_of_pos ((m * 70019 + z * z + 59) ^ (2 : Int).toNat) (show (0 : Int) < 2147483489 by decide)
          omega
    · rintro σ H2 ⟨rfl, m, u, rfl, h0, h1⟩
      have last : ∀ dg : Int, 0 ≤ dg → tDisp [((fun σ H Q => Q (V.str "digits") H : TE), (tVar 4 : TE)), ((fun σ H Q => Q (V.str "mixed") H : TE), (tVar 2 : TE))] [some (.ref a), some (.int j), some (.int m), u, some (.int dg)] H2 Q := fun dg hd => by
        intro p hp
        refine ⟨_, rfl, _, rfl, upd_same, [(kd, V.int dg), (km, V.int m)], rfl, (show 2 ≤ 15 by decide), ?_⟩
        refine q p _ hp ⟨dg, m, by rw [upd_same, merge_well], hd, h0, h1⟩ fun b o e => ?_
        rw [upd_ne (ne_of_none e hp), upd_ne (ne_of_none e hp)]
        exact e
      refine ⟨_, rfl, _, rfl, a, _, rfl, .inl hS, _, _, rfl, rfl, _, rfl, ?_⟩
      by_cases hjl : j < (((ns.map V.int).length : Nat) : Int)
      · rw [decide_eq_true hjl]
        rw [List.length_map] at hjl
        obtain ⟨z, hz⟩ : ∃ z, ns[j.toNat]? = some z := ⟨ns[j.toNat]'(by omega), List.getElem?_eq_getElem _⟩
        have hat : atI (ns.map V.int) j = some (.int z) := at_of (j := j.toNat) (by omega) (by rw [List.getElem?_map, hz]; rfl)
        have cp : CPow 10 18 := ⟨by decide, by decide, by decide⟩
        refine iteT ⟨_, rfl, _, rfl, a, _, _, _, rfl, rfl, hS, hat, _, _, rfl, rfl, cp, _, _, rfl, rfl, _, rfl, ?_⟩
        by_cases hz2 : (10 : Int) ^ (18 : Int).toNat ≤ z
        · rw [decide_eq_true hz2]
          exact iteT ⟨_, rfl, _, rfl, a, _, _, _, rfl, rfl, hS, hat, _, _, rfl, rfl, cp, _, _, rfl, rfl, last _ (by omega)⟩
        · rw [decide_eq_false hz2]
          exact iteF (last 0 (by decide))
      · rw [decide_eq_false hjl]
        exact iteF (last 0 (by decide))
def spDraw : Sp := fun vs H Q _ => ∃ (wa : Addr) (n : Int), vs = [.ref wa, .int n] ∧ Well H wa ∧ 0 < n ∧ n < 1073741824 ∧ ∀ (k : Int) H', 0 ≤ k → k < n → Well H' wa → Sb wa H H' → Q (.int k) H'
theorem scDraw : FnScope ["_law_well_here", "_law_many", "_law_found"] ["_law_well_here", "_law_many"] (defScope sDraw) := ⟨rfl, rfl, rfl, by decide +kernel, rfl, by decide +kernel, by decide +kernel⟩
theorem ok_draw (Fd : Fun K "_law_draw" "_law_draw" sDraw f fd) (T : Tx mg) : FnOk P w K mg base CX0 1 f fd ["_law_well_here", "_law_many"] spDraw := by
  refine Fd.ok scDraw (fun vs H Q E h => ?_) (fun cdv A outer s H vs Q E hr h => ?_)
  · obtain ⟨wa, n, rfl, _⟩ := h
    rfl
  · obtain ⟨wa, n, rfl, ⟨d, m, hw, hd, hm0, hm1⟩, hn0, hn1, q⟩ := h
    have hu := hu_of hr
    refine ⟨_, pss_cons (ps_if (pt_cmpR op_ge (pe_dget hu (pv 0) pe_str (fun _ _ => rfl)) (pv 1) (nomark _))
        (pss_cons (ps_set (i := 2) scDraw.nd rfl (Or.inl rfl) (pe_op op_mod (pe_callTy call_int1 (by rfl) T.int (by decide +kernel) (pa_cons (pe_dget hu (pv 0) pe_str (fun _ _ => rfl)) pa_nil)) (pv 1)))
        (pss_cons (ps_dput hu (pv 0) pe_str (pe_op op_fdiv (pe_dget hu (pv 0) pe_str (fun _ _ => rfl)) (pv 1)) rfl)
        (pss_one (ps_ret (pv 2))))) pss_nil)
      (pss_cons (ps_dput hu (pv 0) pe_str (pe_op op_mod (pe_callTy call_int1 (by rfl) T.int (by decide +kernel) (pa_cons (pe_op op_add (pe_op op_mul (pe_dget hu (pv 0) pe_str (fun _ _ => rfl)) pe_int) pe_int) pa_nil)) pe_int) rfl)
      (pss_one (ps_ret (pe_op op_mod (pe_op op_fdiv (pe_op op_mod (pe_callTy call_int1 (by rfl) T.int (by decide +kernel) (pa_cons (pe_op op_pow (pe_op op_mod (pe_callTy call_int1 (by rfl) T.int (by decide +kernel) (pa_cons (pe_op op_pow (pe_dget hu (pv 0) pe_str (fun _ _ => rfl)) pe_int) pa_nil)) pe_int) pe_int) pa_nil)) pe_int) pe_int) (pv 1))))), ?_⟩
    have gd : ∀ {H2 : Hp} {d m : Int}, H2 wa = some (.dK (wellKv d m)) → DGet H2 wa (.str "digits") (some (.int d)) := fun {H2 d m} h => by
      have z := DGet.k (k := kd) h
      rw [well_dig] at z
      exact z
    have gm : ∀ {H2 : Hp} {d m : Int}, H2 wa = some (.dK (wellKv d m)) → DGet H2 wa (.str "mixed") (some (.int m)) := fun {H2 d m} h => by
      have z := DGet.k (k := km) h
      rw [well_mix] at z
      exact z
    refine ⟨_, rfl, wa, _, rfl, gd hw, _, rfl, _, _, rfl, rfl, _, rfl, ?_⟩
    by_cases hdn : n ≤ d
    · rw [decide_eq_true hdn]
      refine iteT ⟨_, rfl, wa, _, rfl, gd hw, .inl ⟨_, rfl, _, rfl, _, _, rfl, rfl, hn0, ?_⟩⟩
      refine ⟨_, rfl, wa, _, rfl, gd hw, _, rfl, _, _, rfl, rfl, ⟨hn0, hn1⟩, _, rfl, wa, _, rfl, DPut.k (k := kd) hw (show 2 < sizeLine by decide), _, rfl, ?_⟩
      rw [put_dig]
      exact q _ _ (Int.emod_nonneg _ (by omega)) (Int.emod_lt_of_pos _ hn0) ⟨_, m, upd_same, Int.ediv_nonneg hd (by omega), hm0, hm1⟩ (.put wa H _)
    · rw [decide_eq_false hdn]
      have m0 := Int.emod_nonneg (m * 44111 + 5903) (show (2147483647 : Int) ≠ 0 by decide)
      have m1 := Int.emod_lt_of_pos (m * 44111 + 5903) (show (0 : Int) < 2147483647 by decide)
      refine iteF ⟨_, rfl, wa, _, rfl, gm hw, _, _, rfl, rfl, .inr ⟨by decide, by decide⟩, _, _, rfl, rfl, .inl ⟨_, rfl, _, _, rfl, rfl, (show (0 : Int) < 2147483647 by decide), _, rfl, wa, _, rfl, DPut.k (k := km) hw (show 2 < sizeLine by decide), ?_⟩⟩
      rw [put_mix]
      generalize (m * 44111 + 5903) % 2147483647 = m' at m0 m1
      have n0 := Int.emod_nonneg (m' ^ (2 : Int).toNat) (show (2147483549 : Int) ≠ 0 by decide)
      have n1 := Int.emod_lt_of_pos (m' ^ (2 : Int).toNat) (show (0 : Int) < 2147483549 by decide)
      refine ⟨_, rfl, wa, _, rfl, gm upd_same, _, _, rfl, rfl, ⟨by decide, by decide, by omega⟩, .inl ⟨_, rfl, _, _, rfl, rfl, (show (0 : Int) < 2147483549 by decide), ?_⟩⟩
      generalize m' ^ (2 : Int).toNat % 2147483549 = k at n0 n1
      refine ⟨_, _, rfl, rfl, ⟨by decide, by decide, by omega⟩, .inl ⟨_, rfl, _, _, rfl, rfl, (show (0 : Int) < 1000000021 by decide), _, _, rfl, rfl, ⟨by decide, by decide⟩, _, rfl, _, _, rfl, rfl, hn0, ?_⟩⟩
      exact q _ _ (Int.emod_nonneg _ (by omega)) (Int.emod_lt_of_pos _ hn0) ⟨d, m', upd_same, hd, m0, by omega⟩ (.put wa H _)
def spChoose (K : PySem.W.Frag) : Sp := fun vs H Q _ => ∃ (wa la : Addr) (xs : List V), vs = [.ref wa, .ref la] ∧ Well H wa ∧ SqL K H la xs ∧ xs ≠ [] ∧ xs.length ≤ 1000 ∧ ∀ v H', v ∈ xs → Well H' wa → Sb wa H H' → Q v H'
theorem scChoose : FnScope ["_law_well_here", "_law_things"] ["_law_well_here", "_law_things"] (defScope sChoose) := ⟨rfl, rfl, rfl, by decide +kernel, rfl, by decide +kernel, by decide +kernel⟩
theorem ok_choose (Fd : Fun K "_law_choose" "_law_choose" sChoose f fd) (T : Tx mg) (D : Df P w K mg base 1 "_law_draw" ["_law_well_here", "_law_many"] spDraw) : FnOk P w K mg base CX0 2 f fd ["_law_well_here", "_law_things"] (spChoose K) := by
  refine Fd.ok scChoose (fun vs H Q E h => ?_) (fun cdv A outer s H vs Q E hr h => ?_)
  · obtain ⟨wa, la, xs, rfl, _⟩ := h
    rfl
  · obtain ⟨wa, la, xs, rfl, hw, hS, hne, hlen, q⟩ := h
    refine ⟨_, pss_one (ps_ret (pe_ix ix_list (pv 1) (pe_df D hr (pa_cons (pv 0) (pa_cons (pe_callB call_len_seq (by rfl) T.len PySem.boot_len (pa_cons (pv 1) pa_nil)) pa_nil))) (fun _ _ => rfl))), ?_⟩
    have hl : 0 < xs.length := List.length_pos_iff.mpr hne
    refine ⟨_, rfl, _, rfl, _, rfl, la, xs, rfl, .inl hS, wa, _, rfl, hw, by omega, by omega, fun k H' h0 h1 W' s' => ?_⟩
    obtain ⟨v, hv⟩ : ∃ v, xs[k.toNat]? = some v := ⟨xs[k.toNat]'(by omega), List.getElem?_eq_getElem _⟩
    exact ⟨la, xs, _, v, rfl, rfl, seqL hw s' hS, at_of (j := k.toNat) (by omega) hv, q v H' (List.mem_of_getElem? hv) W' s'⟩
end
end K2
namespace K2
open PySem L2 Ld
abbrev sDue : Stmt := top 15
section
variable {P : Program} {w : World} {K : PySem.W.Frag} {mg : Str → Option Value} {base : Heap} {f : Addr} {fd : FuncData}
def spStrange (K : PySem.W.Frag) : Sp := fun vs H Q _ => ∃ (a : Addr) (xs : List Str), vs = [.ref a] ∧ (SqL K H a (xs.map V.str) ∨ SqT K H a (xs.map V.str)) ∧ xs.length ≤ 39 ∧ ∀ m H', Odd xs m → Same H H' → Q (.str (seqW m)) H'
theorem scStrange : FnScope ["words", "taken", "word"] ["words"] (defScope sStrange) := ⟨rfl, rfl, rfl, by decide +kernel, rfl, by decide +kernel, by decide +kernel⟩
theorem ok_strange (Fd : Fun K "strange_word" "strange_word" sStrange f fd) (T : Tx mg) (N : Df P w K mg base 1 "_next_word" ["word"] spNext) : FnOk P w K mg base CX0 2 f fd ["words"] (spStrange K) := by
  refine Fd.ok scStrange (fun vs H Q E h => ?_) (fun cdv A outer s H vs Q E hr h => ?_)
  · obtain ⟨a, xs, rfl, _⟩ := h
    rfl
  · obtain ⟨a, xs, rfl, hx, hl, q⟩ := h
    obtain ⟨t1, hg⟩ := T.ls
    refine ⟨_, pss_cons (ps_set (i := 1) scStrange.nd rfl (Or.inl rfl) (pe_callTy (cr_setS rfl) (by rfl) T.set (by decide +kernel) (pa_cons (pv 0) pa_nil)))
      (pss_cons (ps_set (i := 2) scStrange.nd rfl (Or.inl rfl) (pe_ix ix_str (pe_glob (v := .str abcS) (by rfl) hg ⟨_, rfl⟩) pe_int (fun _ _ => rfl)))
      (pss_cons (ps_while PassesOwn.never (pt_cmpR op_inWords (pv 2) (pv 1) (by rfl)) (pss_one (ps_set (i := 2) scStrange.nd rfl (Or.inl rfl) (pe_df N hr (pa_cons (pv 2) pa_nil)))))
      (pss_one (ps_ret (pv 2))))), ?_⟩
    refine ⟨_, rfl, a, xs, rfl, hx, Nat.le_trans hl (by decide), fun p G s1 ws => ?_⟩
    refine ⟨_, _, _, rfl, rfl, abc_len, abc_0, ?_⟩
    rw [one_a]
    refine ⟨fun m σ G2 => G2 = G ∧ ∃ i, m + i = 40 ∧ (∀ j < i, seqW j ∈ xs) ∧ σ = [some (.ref a), some (.ref p), some (.str (seqW i))], ⟨40, rfl, 0, rfl, (fun j hj => absurd hj (Nat.not_lt_zero j)), rfl⟩, ?_⟩
    rintro m σ G2 ⟨rfl, i, hm, hall, rfl⟩
    have hi := ahead_few (by omega) hall
    refine ⟨_, rfl, _, rfl, _, p, xs, rfl, rfl, ws, _, rfl, ?_⟩
    by_cases hin : seqW i ∈ xs
    · rw [decide_eq_true hin]
      refine iteT ⟨fun σ' G' => G' = G2 ∧ σ' = [some (.ref a), some (.ref p), some (.str (seqW (i + 1)))], fun σ' G' ⟨e1, e2⟩ => ⟨m - 1, by omega, e1, i + 1, by omega, fun j hj => ?_, e2⟩, ?_⟩
      · by_cases h : j = i
        · rw [h]
          exact hin
        · exact hall j (by omega)
      · exact ⟨_, rfl, i, rfl, by omega, rfl, rfl⟩
    · rw [decide_eq_false hin]
      exact iteF ⟨_, rfl, q i G2 ⟨hi, hin, hall⟩ s1⟩
/-- the law's own -/
theorem scDue : FnScope ["_law_words_here", "_law_word", "_law_kept", "_law_letters"] ["_law_words_here"] (defScope sDue) := ⟨rfl, rfl, rfl, by decide +kernel, rfl, by decide +kernel, by decide +kernel⟩
theorem flat_words : ∀ xs : List Str, (xs.map V.str).all flatV = true
  | [] => rfl
  | x :: xs => by
    rw [List.map_cons, List.all_cons, flat_words xs]
    rfl
theorem in_words (z : Str) : ∀ xs : List Str, inV (.str z) (xs.map V.str) = decide (z ∈ xs)
  | [] => rfl
  | x :: xs => by
    have ih := in_words z xs
    unfold inV at ih ⊢
    rw [List.map_cons, List.any_cons, ih]
    have e : eqV (.str x) (.str z) = decide (x = z) := by
      by_cases h : x = z
      · subst h
        simp [eqV]
      · simp [eqV, h]
    rw [e]
    by_cases h : x = z
    · subst h
      simp
    · have h' : ¬ z = x := fun q => h q.symm
      simp [h, h']
def nextE (z : Str) (i : Nat) : Prop := z = Str.ofString "" ∧ i = 0 ∨ ∃ k, i = k + 1 ∧ z = seqW k
theorem ok_due (Fd : Fun K "_law_strange" "_law_strange" sDue f fd) (T : Tx mg) : FnOk P w K mg base CX0 1 f fd ["_law_words_here"] (spStrange K) := by
  refine Fd.ok scDue (fun vs H Q E h => ?_) (fun cdv A outer s H vs Q E hr h => ?_)
  · obtain ⟨a, xs, rfl, _⟩ := h
    rfl
  · obtain ⟨a, xs, rfl, hx, hl, q⟩ := h
    refine ⟨_, pss_cons (ps_set (i := 1) scDue.nd rfl (Or.inl rfl) pe_str)
      (pss_one (ps_while PassesOwn.never (pt_val pe_bl)
        (pss_cons (ps_if (pt_cmpR op_lt (pe_callB call_len_str (by rfl) T.len PySem.boot_len (pa_cons (pv 1) pa_nil)) pe_int (nomark _)) (pss_one (ps_set (i := 1) scDue.nd rfl (Or.inl rfl) (pe_op op_add_str (pv 1) pe_str)))
            (pss_cons (ps_set (i := 2) scDue.nd rfl (Or.inl rfl) (pe_m1 PySem.F.slot_str_rstrip PySem.F.type_str_rstrip mt_rstripChars (pv 1) pe_str))
            (pss_cons (ps_set (i := 3) scDue.nd rfl (Or.inl rfl) pe_str)
            (pss_one (ps_set (i := 1) scDue.nd rfl (Or.inl rfl) (pe_op op_add_str (pe_slice sl_str (pv 2) po_none (po_some (pe_un un_neg pe_int))) (pe_ix ix_str (pv 3) (pe_op op_add (pe_m1 PySem.F.slot_str_index PySem.F.type_str_index mt_sindex (pv 3)
                (pe_ix ix_str (pv 2) (pe_un un_neg pe_int) (fun _ _ => rfl))) pe_int) (fun _ _ => rfl))))))))
        (pss_one (ps_if (pt_cmpR op_notIn_seq (pv 1) (pv 0) (by rfl)) (pss_one (ps_ret (pv 1))) pss_nil))))), ?_⟩
    refine ⟨fun m σ G2 => G2 = H ∧ ∃ i z u v, m + i = 41 ∧ nextE z i ∧ (∀ j < i, seqW j ∈ xs) ∧ σ = [some (.ref a), some (.str z), u, v], ⟨41, rfl, 0, _, none, none, rfl, .inl ⟨rfl, rfl⟩, (fun j hj => absurd hj (Nat.not_lt_zero j)), rfl⟩, ?_⟩
    rintro m σ G2 ⟨rfl, i, z, u, v, hm, hz, hall, rfl⟩
    have hi := ahead_few (by omega) hall
    have go : ∀ (R : Bool → Prop), (Q (.str (seqW i)) G2 → R true) → (seqW i ∈ xs → R false) → (∃ p ys, V.ref a = .ref p ∧ (SqL K G2 p ys ∨ SqT K G2 p ys) ∧ flatV (.str (seqW i)) = true ∧ ys.all flatV = true ∧
          ∃ k, V.bl (if true = true then !inV (.str (seqW i)) ys else inV (.str (seqW i)) ys) = .bl k ∧ R k) := fun R h1 h2 => by
      refine ⟨a, xs.map V.str, rfl, hx, rfl, flat_words xs, _, rfl, ?_⟩
      rw [if_pos rfl, in_words]
      by_cases hin : seqW i ∈ xs
      · rw [decide_eq_true hin]
        exact h2 hin
      · rw [decide_eq_false hin]
        exact h1 (q i G2 ⟨hi, hin, hall⟩ (Same.refl _))
    refine ⟨_, rfl, iteT ⟨fun σ' G' => G' = G2 ∧ seqW i ∈ xs ∧ ∃ u v, σ' = [some (.ref a), some (.str (seqW i)), u, v], fun σ' G' ⟨e1, hin, u', v', e2⟩ => ⟨m - 1, by omega, e1, i + 1, _, u', v', by omega, .inr ⟨i, rfl, rfl⟩, fun j hj => by
        by_cases h : j = i
        · rw [h]
          exact hin
        · exact hall j (by omega), e2⟩, ?_⟩⟩
    rcases hz with ⟨rfl, rfl⟩ | ⟨k, rfl, rfl⟩
    · refine ⟨_, rfl, _, rfl, (show (0 : Nat) ≤ sizeLine by decide), _, _, rfl, rfl, _, rfl, ?_⟩
      refine iteT ⟨_, rfl, _, _, rfl, rfl, ?_, ?_⟩
      · rw [a_len, sizeLine_eq]
        decide
      · rw [show Str.ofString "" ++ Str.ofString "a" = seqW 0 from by decide +kernel]
        exact ⟨_, rfl, _, rfl, go _ (fun h => iteT ⟨_, rfl, h⟩) fun hin => iteF ⟨rfl, hin, _, _, rfl⟩⟩
    · have S := step_of (i := k) (by omega)
      have e0 : seqW (k + 1) = nextW (seqW k) := rfl
      rw [e0] at go
      rw [e0]
      generalize seqW k = z at S go
      have big : z.length ≤ sizeLine := Nat.le_trans S.len (by decide)
      refine ⟨_, rfl, _, rfl, big, _, _, rfl, rfl, _, rfl, ?_⟩
      by_cases hz : (z.length : Int) < 12
      · rw [decide_eq_true hz]
        refine iteT ⟨_, rfl, _, _, rfl, rfl, ?_, ?_⟩
        · have := S.len
          rw [a_len, sizeLine_eq]
          omega
        · rw [← next_near (by omega)]
          exact ⟨_, rfl, _, rfl, go _ (fun h => iteT ⟨_, rfl, h⟩) fun hin => iteF ⟨rfl, hin, _, _, rfl⟩⟩
      · rw [decide_eq_false hz]
        have hz : ¬ z.length < 12 := by omega
        obtain ⟨k1, k2, k3, k4⟩ := S.far hz
        have kbig : (keptW z).length ≤ sizeLine := Nat.le_trans k1 (by decide)
        refine iteF ⟨_, rfl, ⟨_, rfl⟩, _, _, rfl, rfl, big, ?_⟩
        rw [show Txt.rstripChars z (Str.ofString "z") = keptW z from rfl]
        refine ⟨_, rfl, _, rfl, _, rfl, _, rfl, kbig, _, rfl, _, rfl, ⟨_, rfl⟩, _, rfl, _, rfl, _, _, _, rfl, rfl, kbig, k2, ?_⟩
        refine ⟨_, _, _, [], rfl, rfl, k3, _, _, rfl, rfl, _, _, _, rfl, rfl, abc_len, k4, ?_⟩
        refine ⟨_, _, rfl, rfl, ?_, ?_⟩
        · have := cutS_len k1
          have e : (⟨#[lastOf (keptW z) + 1]⟩ : Str).length = 1 := rfl
          rw [e, sizeLine_eq]
          exact Nat.le_trans (Nat.add_le_add_right this 1) (by decide)
        · rw [show cutS (keptW z) none (some (-1)) ++ ⟨#[lastOf (keptW z) + 1]⟩ = nextW z from (next_far hz).symm]
          exact ⟨_, rfl, _, rfl, go _ (fun h => iteT ⟨_, rfl, h⟩) fun hin => iteF ⟨rfl, hin, _, _, rfl⟩⟩
end
end K2
namespace K2
open PySem L2 Ld
abbrev sAddress : Stmt := top 13
abbrev sBefore : Stmt := top 14
abbrev sWords : Stmt := top 16
section
variable {P : Program} {w : World} {K : PySem.W.Frag} {mg : Str → Option Value} {base : Heap} {f : Addr} {fd : FuncData}
def mwB (z : Str) : Bool := decide (z.length ≤ 12) && z.cps.toList.all (fun c => decide (c < 128))
theorem mw_of {z : Str} (h : mwB z = true) : Mw z := by
  simp only [mwB, Bool.and_eq_true, decide_eq_true_eq, List.all_eq_true] at h
  exact h
def menu : List Str := ["a", "aa", "b", "ab", "z"]
theorem menu_ok : ∀ z ∈ menu, Mw z := fun z hz => mw_of (List.all_eq_true.mp (show menu.all mwB = true by decide +kernel) z hz)
def spAddress (K : PySem.W.Frag) : Sp := fun vs H Q _ => ∃ wa : Addr, vs = [.ref wa] ∧ Well H wa ∧ ∀ (r : Addr) (ws : List Str) H', SqT K H' r (ws.map V.str) → ws.length ≤ 5 → (∀ z ∈ ws, Mw z) → Well H' wa → Sb wa H H' → Q (.ref r) H'
theorem scAddress : FnScope ["_law_well_here", "_law_turn"] ["_law_well_here"] (defScope sAddress) := ⟨rfl, rfl, rfl, by decide +kernel, rfl, by decide +kernel, by decide +kernel⟩
theorem ok_address (Fd : Fun K "_law_address" "_law_address" sAddress f fd) (T : Tx mg) (D : Df P w K mg base 1 "_law_draw" ["_law_well_here", "_law_many"] spDraw) (C : Df P w K mg base 2 "_law_choose" ["_law_well_here", "_law_things"] (spChoose K)) :
    FnOk P w K mg base CX0 3 f fd ["_law_well_here"] (spAddress K) := by
  refine Fd.ok scAddress (fun vs H Q E h => ?_) (fun cdv A0 outer s H vs Q E hr h => ?_)
  · obtain ⟨wa, rfl, _⟩ := h
    rfl
  · obtain ⟨wa, rfl, hw, q⟩ := h
    have nd := scAddress.nd
    refine ⟨_, pss_one (ps_ret (pe_callTy call_tuple_of (by rfl) T.tuple (by decide +kernel) (pa_cons (pe_lc (own := [("_law_turn", 1)]) (g := gName 1) (tt := tYes) (by rfl) nd
              (pi_range1 rfl T.range (pa_cons (pe_df D hr (pa_cons (pv 0) (pa_cons pe_int pa_nil))) pa_nil)) (blkOk_by (own := [("_law_turn", 1)]) (N := ["_law_well_here", "_law_turn"]) (sc := defScope sAddress) (by decide +kernel))
              (fun _ _ _ _ _ => pg_name (i := 1) nd rfl (Or.inl rfl)) (fun _ _ _ _ _ => pts_nil) (fun _ _ _ _ _ => pe_df C hr (pa_cons (pv 0) (pa_cons (pe_lst (pa_cons pe_str (pa_cons pe_str (pa_cons pe_str (pa_cons pe_str (pa_cons pe_str pa_nil)))))) pa_nil)))) pa_nil))), ?_⟩
    refine ⟨_, rfl, wa, 6, rfl, hw, by decide, by decide, fun k G4 k0 k1 W4 s4 => ⟨k, rfl, by omega, by omega, fun D hD => ?_⟩⟩
    refine lc_range (lo := 0) (n := k.toNat) (fun i G => Sb wa G4 G ∧ Well G wa ∧ ∃ ws : List Str, G D = some (.lst (ws.map V.str)) ∧ (∀ z ∈ ws, Mw z) ∧ ws.length ≤ i) ⟨.of (Ld.Same.new hD), W4.same (Ld.Same.new hD), [], upd_same, (fun z hz => nomatch hz), Nat.le_refl _⟩ ?_ ?_
    · rintro e G hk ⟨sG4, WG, ws, hDl, hws, hwl⟩
      refine ⟨rfl, ?_⟩
      show tDf (spChoose K) (tCons (tVar 0) (tCons (tLst _) tNil)) _ _ _
      refine ⟨_, rfl, (show 5 ≤ sizeLine by decide), fun pm npm => ?_⟩
      have zm := Same.new (o := .lst (menu.map V.str)) npm
      refine ⟨wa, pm, menu.map V.str, rfl, WG.same zm, .of upd_same, by decide, (show 5 ≤ 1000 by decide), fun v G' hv W' s' => ?_⟩
      obtain ⟨z, hz, rfl⟩ := List.mem_map.mp hv
      have neD := WG.lst hDl
      have hD' := s' D _ neD (zm _ _ hDl)
      have hn : ws.length ≤ 5 := by omega
      refine ⟨_, hD', by rw [List.length_map]; exact Nat.lt_of_le_of_lt hn (by decide), fun b o nb eb => ?_, ?_, ws ++ [z], ?_, fun y hy => ?_, by simp; omega⟩
      · rw [upd_ne (ne_of_none eb hD)]
        exact s' b o nb (zm _ _ (sG4 b o nb eb))
      · obtain ⟨d, m, h1, h2⟩ := W'
        exact ⟨d, m, by rw [upd_ne neD.symm]; exact h1, h2⟩
      · rw [upd_same, List.map_append]
        rfl
      · rcases List.mem_append.mp hy with g | g
        · exact hws y g
        · rw [List.mem_singleton.mp g]
          exact menu_ok z hz
    · rintro G ⟨sG4, WG, ws, hDl, hws, hwl⟩
      refine ⟨D, _, rfl, .inl ⟨.of hDl, fun t nt => ?_⟩⟩
      have zt := Same.new (o := .tup (ws.map V.str)) nt
      exact q t ws _ (.of upd_same) (by omega) hws (WG.same zt) (s4.trans (sG4.trans (.of zt)))
theorem wordsLt_at : ∀ {ws us : List Str} {i : Nat} {x y : Str}, (∀ j < i, ws[j]? = us[j]?) → ws[i]? = some x → us[i]? = some y → x ≠ y → wordsLt ws us = decide (x.cps.toList < y.cps.toList)
  | a :: ws, b :: us, 0, x, y, _, h1, h2, ne => by
    cases h1
    cases h2
    exact if_neg ne
  | a :: ws, b :: us, i + 1, x, y, h, h1, h2, ne => by
    have e : a = b := by
      have := h 0 (Nat.succ_pos _)
      simpa using this
    unfold wordsLt
    rw [if_pos e]
    refine wordsLt_at (i := i) (fun j hj => ?_) (by simpa using h1) (by simpa using h2) ne
    have := h (j + 1) (Nat.succ_lt_succ hj)
    simpa using this
  | [], us, i, x, y, _, h1, _, _ => by simp at h1
  | _ :: _, [], i, x, y, _, _, h2, _ => by simp at h2
theorem words_same : ∀ {ws us : List Str}, ws.length = us.length → (∀ j < ws.length, ws[j]? = us[j]?) → ws = us := fun {ws us} hl h => by
  apply List.ext_getElem? 
  intro j
  by_cases hj : j < ws.length
  · exact h j hj
  · rw [List.getElem?_eq_none (by omega), List.getElem?_eq_none (by omega)]
def spBefore (K : PySem.W.Frag) : Sp := fun vs H Q _ => ∃ (a b : Addr) (ws us : List Str), vs = [.ref a, .ref b] ∧ SqT K H a (ws.map V.str) ∧ SqT K H b (us.map V.str) ∧ ∀ H', Same H H' → Q (.bl (keyLt ws us)) H'
theorem scBefore : FnScope ["_law_one", "_law_other", "_law_first", "_law_second"] ["_law_one", "_law_other"] (defScope sBefore) := ⟨rfl, rfl, rfl, by decide +kernel, rfl, by decide +kernel, by decide +kernel⟩
theorem get_str {ws : List Str} {i : Nat} {v : V} (h : (ws.map V.str)[i]? = some v) : ∃ z, ws[i]? = some z ∧ v = .str z := by
  rw [List.getElem?_map] at h
  cases e : ws[i]? with
  | none => rw [e] at h; cases h
  | some z =>
    rw [e] at h
    cases h
    exact ⟨z, rfl, rfl⟩
theorem ok_before (Fd : Fun K "_law_before" "_law_before" sBefore f fd) (T : Tx mg) : FnOk P w K mg base CX0 1 f fd ["_law_one", "_law_other"] (spBefore K) := by
  refine Fd.ok scBefore (fun vs H Q E h => ?_) (fun cdv A0 outer s H vs Q E hr h => ?_)
  · obtain ⟨a, b, ws, us, rfl, _⟩ := h
    rfl
  · obtain ⟨a, b, ws, us, rfl, ha, hb, q⟩ := h
    have nd := scBefore.nd
    refine ⟨_, pss_cons (ps_if (pt_cmpR op_ne (pe_callB call_len_seq (by rfl) T.len PySem.boot_len (pa_cons (pv 0) pa_nil)) (pe_callB call_len_seq (by rfl) T.len PySem.boot_len (pa_cons (pv 1) pa_nil)) (nomark _))
        (pss_one (ps_ret (pe_cmpR op_lt (pe_callB call_len_seq (by rfl) T.len PySem.boot_len (pa_cons (pv 0) pa_nil)) (pe_callB call_len_seq (by rfl) T.len PySem.boot_len (pa_cons (pv 1) pa_nil)) (nomark _)))) pss_nil)
      (pss_cons (ps_for PassesOwn.never rfl (RZ.pi_zipA rfl T.zip (pa_cons (pv 0) (pa_cons (pv 1) pa_nil))) (pg_tup (by rfl) (pgs_cons (pg_name (i := 2) nd rfl (Or.inl rfl)) (pgs_cons (pg_name (i := 3) nd rfl (Or.inl rfl)) pgs_nil)))
        (pss_one (ps_if (pt_cmpR op_ne (pv 2) (pv 3) (nomark _)) (pss_one (ps_ret (pe_cmpR op_lt_str (pv 2) (pv 3) (nomark _)))) pss_nil)))
      (pss_one (ps_ret pe_bl))), ?_⟩
    refine ⟨_, rfl, a, _, rfl, .inr ha, _, rfl, b, _, rfl, .inr hb, rfl, _, rfl, ?_⟩
    rw [List.length_map, List.length_map]
    by_cases hl : ws.length = us.length
    · have e1 : (!decide (V.int (ws.length : Int) = V.int (us.length : Int))) = false := by rw [hl]; simp
      rw [e1]
      refine iteF ⟨_, rfl, _, rfl, a, b, _, _, rfl, .inr ⟨ha, hb, RZ.for_zipT (by rw [List.length_map, List.length_map, hl]) (fun i σ G => Same H G ∧ (∀ j < i, ws[j]? = us[j]?) ∧ ∃ u v, σ = [some (.ref a), some (.ref b), u, v])
        ⟨Same.refl _, (fun j hj => absurd hj (Nat.not_lt_zero j)), _, _, rfl⟩ (fun i σ G h => ⟨same_T h.1 ha, same_T h.1 hb⟩) ?_ ?_⟩⟩
      · rintro i x y T σ G hx hy ⟨sG, hall, u, v, rfl⟩ hT
        obtain ⟨x, gx, rfl⟩ := get_str hx
        obtain ⟨y, gy, rfl⟩ := get_str hy
        have zT := Same.new (o := .tup [.str x, .str y]) hT
        refine ⟨T, [.str x, .str y], rfl, .of upd_same, rfl, _, _, rfl, ?_⟩
        refine ⟨_, _, rfl, ⟨rfl, ?_⟩⟩
        refine ⟨_, rfl, _, rfl, rfl, _, rfl, ?_⟩
        by_cases e : x = y
        · have e2 : (!decide (V.str x = V.str y)) = false := by rw [e]; simp
          rw [e2]
          refine iteF ⟨sG.trans zT, fun j hj => ?_, _, _, rfl⟩
          by_cases h : j = i
          · rw [h, gx, gy, e]
          · exact hall j (by omega)
        · have e2 : (!decide (V.str x = V.str y)) = true := by
            have : ¬ V.str x = V.str y := fun q => e (V.str.inj q)
            simp [this]
          rw [e2]
          refine iteT ⟨_, rfl, _, rfl, _, _, rfl, rfl, ?_⟩
          have := q _ (sG.trans zT)
          unfold keyLt at this
          rw [if_pos hl, wordsLt_at hall gx gy e] at this
          exact this
      · rintro σ G ⟨sG, hall, u, v, rfl⟩
        have e : ws = us := words_same hl fun j hj => hall j (by rw [List.length_map]; exact hj)
        have := q _ sG
        unfold keyLt at this
        rw [if_pos hl, e, wordsLt_self] at this
        exact this
    · have e1 : (!decide (V.int (ws.length : Int) = V.int (us.length : Int))) = true := by
        have : ¬ V.int (ws.length : Int) = V.int (us.length : Int) := fun q => hl (by have := V.int.inj q; omega)
        simp [this]
      rw [e1]
      refine iteT ⟨_, rfl, a, _, rfl, .inr ha, _, rfl, b, _, rfl, .inr hb, _, _, rfl, rfl, ?_⟩
      have := q _ (Same.refl _)
      unfold keyLt at this
      rw [if_neg hl] at this
      rw [List.length_map, List.length_map]
      have e2 : decide (((ws.length : Nat) : Int) < ((us.length : Nat) : Int)) = decide (ws.length < us.length) := by
        by_cases h : ws.length < us.length
        · rw [decide_eq_true h, decide_eq_true (by omega)]
        · rw [decide_eq_false h, decide_eq_false (by omega)]
      rw [← e2] at this
      exact this
def spWords (K : PySem.W.Frag) : Sp := fun vs H Q _ => ∃ wa : Addr, vs = [.ref wa] ∧ Well H wa ∧ ∀ (r : Addr) (ws : List Str) H', H' r = some (.lst (ws.map V.str)) → ws.length ≤ 30 → (∀ z ∈ ws, Mw z) → Well H' wa → Sb wa H H' → Q (.ref r) H'
theorem scWords : FnScope ["_law_well_here", "_law_found", "_law_count"] ["_law_well_here"] (defScope sWords) := ⟨rfl, rfl, rfl, by decide +kernel, rfl, by decide +kernel, by decide +kernel⟩
def aas (n : Nat) : Str := Txt.mul (Str.ofString "a") n
theorem aas_all : (List.range 13).all (fun n => mwB (aas n)) = true := by decide +kernel
theorem aas_ok {n : Nat} (h : n ≤ 12) : Mw (aas n) := mw_of (List.all_eq_true.mp aas_all n (List.mem_range.mpr (by omega)))
def more : List Str := ["aaaaaaaaaaab", "aaaaaaaaaaac", "b"]
theorem more_ok : ∀ z ∈ more, Mw z := fun z hz => mw_of (List.all_eq_true.mp (show more.all mwB = true by decide +kernel) z hz)
theorem erase_map : ∀ (ws : List Str) (k : Nat), (ws.map V.str).eraseIdx k = (ws.eraseIdx k).map V.str
  | [], _ => rfl
  | _ :: _, 0 => rfl
  | a :: ws, k + 1 => by
    simp only [List.map_cons, List.eraseIdx_cons_succ, erase_map ws k]
theorem ok_words (Fd : Fun K "_law_words" "_law_words" sWords f fd) (T : Tx mg) (D : Df P w K mg base 1 "_law_draw" ["_law_well_here", "_law_many"] spDraw) :
    FnOk P w K mg base CX0 3 f fd ["_law_well_here"] (spWords K) := by
  refine Fd.ok scWords (fun vs H Q E h => ?_) (fun cdv A0 outer s H vs Q E hr h => ?_)
  · obtain ⟨wa, rfl, _⟩ := h
    rfl
  · obtain ⟨wa, rfl, hw, q⟩ := h
    have nd := scWords.nd
    refine ⟨_, pss_cons (ps_setLc (i := 1) (own := [("_law_count", 2)]) (g := gName 2) (tt := tYes) (by rfl) nd rfl rfl (sw_true rfl rfl rfl (by decide +kernel))
          (pi_range2 rfl T.range (pa_cons pe_int (pa_cons (pe_op op_add pe_int (pe_df D hr (pa_cons (pv 0) (pa_cons pe_int pa_nil)))) pa_nil))) (blkOk_by (own := [("_law_count", 2)]) (N := ["_law_well_here", "_law_found", "_law_count"]) (sc := defScope sWords) (by decide +kernel))
          (fun _ _ _ _ _ => pg_name (i := 2) nd rfl (Or.inl rfl)) (fun _ _ _ _ _ => pts_nil) (fun _ _ _ _ _ => pe_op op_mulS pe_str (pv 2)))
      (pss_cons (ps_if (pt_cmpR op_eq (pe_df D hr (pa_cons (pv 0) (pa_cons pe_int pa_nil))) pe_int (nomark _)) (pss_one (ps_set (i := 1) nd rfl (Or.inl rfl) (pe_op op_cat (pv 1) (pe_lst (pa_cons pe_str (pa_cons pe_str (pa_cons pe_str pa_nil))))))) pss_nil)
      (pss_cons (ps_if (PW.pt (pw_and (pt_cmpR op_eq (pe_df D hr (pa_cons (pv 0) (pa_cons pe_int pa_nil))) pe_int (nomark _)) (pw_and1 (pt_cmpR (op_neD hr.units) (pv 1) (pe_lst pa_nil) (nomark _)))))
          (pss_one (ps_expr (pe_bm PySem.F.plainAttrs_list PySem.F.slot_list_pop PySem.F.type_list_pop mt_popAt (pv 1) (pa_cons (pe_df D hr (pa_cons (pv 0) (pa_cons (pe_callB call_len_seq (by rfl) T.len PySem.boot_len (pa_cons (pv 1) pa_nil)) pa_nil))) pa_nil)))) pss_nil)
      (pss_one (ps_ret (pe_ifExp (pt_cmpR op_eq (pe_df D hr (pa_cons (pv 0) (pa_cons pe_int pa_nil))) pe_int (nomark _)) (pe_revL (pv 1)) (pe_op op_cat (pv 1) (pe_slice sl_list (pv 1) po_none (po_some pe_int)))))))), ?_⟩
    have last : ∀ (G : Hp) (F : Addr) (ws : List Str) (u : Option V), Sb wa H G → Well G wa → G F = some (.lst (ws.map V.str)) → ws.length ≤ 15 → (∀ z ∈ ws, Mw z) →
        tRet (tIf (tTest (tOp rEq (tDf spDraw (tCons (tVar 0) (tCons (tC (.int 2)) tNil))) (tC (.int 0)))) (tRevL K (tVar 1)) (tOp rCat (tVar 1) (tSl (rSlL K) (tVar 1) tNoPart (tPart (tC (.int 2)))))) ({ nx := fun _ H' => Q .non H', rt := Q } : Ends) [some (.ref wa), some (.ref F), u] G := fun G F ws u sG WG hF hn hm => by
      refine ⟨_, rfl, wa, 2, rfl, WG, by decide, by decide, fun k G2 k0 k1 W2 s2 => ⟨rfl, _, rfl, ?_⟩⟩
      have hF2 := s2 _ _ (WG.lst hF) hF
      by_cases hk : k = 0
      · subst hk
        refine iteT ⟨_, rfl, F, _, rfl, .of hF2, fun p hp => ?_⟩
        have z := Same.new (o := .lst (ws.map V.str).reverse) hp
        refine q p ws.reverse _ ?_ (by rw [List.length_reverse]; omega) (fun y hy => hm y (List.mem_reverse.mp hy)) (W2.same z) (sG.trans (s2.trans (.of z)))
        rw [upd_same, List.map_reverse]
      · have e : decide (V.int k = V.int 0) = false := decide_eq_false fun q => hk (V.int.inj q)
        rw [e]
        refine iteF ⟨_, rfl, _, rfl, _, rfl, F, _, rfl, .of hF2, fun p hp => ?_⟩
        have z := Same.new (o := .lst (cutV (ws.map V.str) none (some 2))) hp
        have e2 : cutV (ws.map V.str) none (some 2) = (ws.take 2).map V.str := cut_lo ws 2
        rw [e2] at z ⊢
        refine ⟨F, p, _, _, rfl, rfl, z _ _ hF2, upd_same, ?_, fun r hr2 => ?_⟩
        · rw [sizeLine_eq]
          simp only [List.length_map, List.length_take]
          omega
        · have z2 := Same.new (o := .lst (ws.map V.str ++ (ws.take 2).map V.str)) hr2
          refine q r (ws ++ ws.take 2) _ ?_ ?_ (fun y hy => ?_) ((W2.same z).same z2) (sG.trans (s2.trans (.of (z.trans z2))))
          · rw [upd_same, List.map_append]
          · simp only [List.length_append, List.length_take]
            omega
          · rcases List.mem_append.mp hy with g | g
            · exact hm y g
            · exact hm y (List.mem_of_mem_take g)
    have mid : ∀ (G : Hp) (F : Addr) (ws : List Str) (u : Option V), Sb wa H G → Well G wa → G F = some (.lst (ws.map V.str)) → ws.length ≤ 15 → (∀ z ∈ ws, Mw z) → H F = none →
        tSeq (tIfS (tAnd (tTest (tOp rEq (tDf spDraw (tCons (tVar 0) (tCons (tC (.int 3)) tNil))) (tC (.int 0)))) (tTest (tOp (rNeD K) (tVar 1) (tLst tNil))))
            (tDrop (tBM K "list" rPopAt (tVar 1) (tCons (tDf spDraw (tCons (tVar 0) (tCons (tCB (fun xs H Q => ∃ p ys, xs = [.ref p] ∧ (SqL K H p ys ∨ SqT K H p ys) ∧ Q (.int ys.length) H) (tCons (tVar 1) tNil)) tNil))) tNil))) tNext)
          (tRet (tIf (tTest (tOp rEq (tDf spDraw (tCons (tVar 0) (tCons (tC (.int 2)) tNil))) (tC (.int 0)))) (tRevL K (tVar 1)) (tOp rCat (tVar 1) (tSl (rSlL K) (tVar 1) tNoPart (tPart (tC (.int 2))))))) ({ nx := fun _ H' => Q .non H', rt := Q } : Ends) [some (.ref wa), some (.ref F), u] G := fun G F ws u sG WG hF hn hm nF => by
      refine ⟨_, rfl, wa, 3, rfl, WG, by decide, by decide, fun k G2 k0 k1 W2 s2 => ⟨rfl, _, rfl, ?_⟩⟩
      have hF2 := s2 _ _ (WG.lst hF) hF
      have s02 := sG.trans s2
      by_cases hk : k = 0
      · subst hk
        refine iteT ⟨_, rfl, (show 0 ≤ sizeLine by decide), fun p hp => ?_⟩
        have z := Same.new (o := .lst []) hp
        have hF3 := z _ _ hF2
        have W3 := W2.same z
        have s03 := s02.trans (Sb.of z)
        refine ⟨.list (ws.map PyData.str), .list [], .lst (.of hF3) (dp_strs ws), .lst (.of upd_same) .nil, shaped_wl fun y hy => (hm y hy).2, by decide, _, rfl, ?_⟩
        rw [show PyData.eqv (.list (ws.map PyData.str)) (.list []) = decide (ws = []) from eqv_wl ws []]
        by_cases he : ws = []
        · rw [decide_eq_true he]
          exact iteF (last _ F ws u s03 W3 hF3 hn hm)
        · rw [decide_eq_false he]
          have hl : 0 < ws.length := List.length_pos_iff.mpr he
          refine iteT ⟨_, rfl, .inl ⟨rfl, _, .of hF3⟩, _, rfl, _, rfl, F, _, rfl, .inl (.of hF3), wa, _, rfl, W3, by rw [List.length_map]; omega, by rw [List.length_map]; omega, fun j G4 j0 j1 W4 s4 => ?_⟩
          rw [List.length_map] at j1
          have hF4 := s4 _ _ (W3.lst hF3) hF3
          have hat : ∃ y, (ws.map V.str)[j.toNat]? = some y := ⟨(ws.map V.str)[j.toNat]'(by rw [List.length_map]; omega), List.getElem?_eq_getElem _⟩
          obtain ⟨y, hy⟩ := hat
          refine ⟨F, _, j, j.toNat, y, rfl, rfl, hF4, by omega, by omega, ?_, hy, ?_⟩
          · unfold seqIndex?
            rw [List.length_map]
            have h1 : ¬ j < 0 := by omega
            simp only [h1, if_false]
            rw [if_pos]
            simp only [Bool.and_eq_true, decide_eq_true_eq]
            omega
          · have neF := W4.lst hF4
            refine last _ F (ws.eraseIdx j.toNat) u (fun b o nb eb => ?_) ?_ ?_ ?_ fun z hz => hm z (List.mem_of_mem_eraseIdx hz)
            · rw [upd_ne (ne_of_none eb nF)]
              exact (s03.trans s4) b o nb eb
            · obtain ⟨d, m, h1, h2⟩ := W4
              exact ⟨d, m, by rw [upd_ne neF.symm]; exact h1, h2⟩
            · rw [upd_same, erase_map]
            · have := List.length_eraseIdx_le ws j.toNat
              omega
      · have e : decide (V.int k = V.int 0) = false := decide_eq_false fun q => hk (V.int.inj q)
        rw [e]
        exact iteF (iteF (last _ F ws u s02 W2 hF2 hn hm))
    refine ⟨_, rfl, wa, 13, rfl, hw, by decide, by decide, fun k G1 k0 k1 W1 s1 => ⟨_, _, rfl, rfl, _, _, rfl, ⟨by decide, by decide, by omega, by omega⟩, fun D1 hD1 => ?_⟩⟩
    refine lc_range (lo := 1) (n := (1 + k - 1).toNat) (fun i G => Same G1 G ∧ ∃ ws : List Str, G D1 = some (.lst (ws.map V.str)) ∧ (∀ z ∈ ws, Mw z) ∧ ws.length ≤ i) ⟨Ld.Same.new hD1, [], upd_same, (fun z hz => nomatch hz), Nat.le_refl _⟩ ?_ ?_
    · rintro i G hi ⟨sG, ws, hD, hm, hn⟩
      refine ⟨rfl, ?_⟩
      show tOp rMulS (tC (.str "a")) (tVar 2) _ _ _
      refine ⟨_, rfl, _, i + 1, rfl, ?_, by decide, by omega, _, hD, ?_, fun b o e => ?_, ws ++ [aas (i + 1)], ?_, fun y hy => ?_, by simp; omega⟩
      · rw [Int.add_comm]
        rfl
      · rw [List.length_map]
        exact Nat.lt_of_le_of_lt (show ws.length ≤ 13 by omega) (by decide)
      · rw [upd_ne (ne_of_none e hD1)]
        exact sG b o e
      · rw [upd_same, List.map_append]
        rfl
      · rcases List.mem_append.mp hy with g | g
        · exact hm y g
        · rw [List.mem_singleton.mp g]
          exact aas_ok (by omega)
    · rintro G ⟨sG, ws, hD, hm, hn⟩
      have hn : ws.length ≤ 12 := by omega
      have WG := W1.same sG
      have sHG := s1.trans (Sb.of sG)
      have nH : H D1 = none := by
        cases e : H D1 with
        | none => rfl
        | some o =>
          have ne : D1 ≠ wa := WG.lst hD
          have := s1 _ _ ne e
          rw [hD1] at this
          cases this
      show tSeq _ _ _ _ _
      refine ⟨_, rfl, wa, 2, rfl, WG, by decide, by decide, fun k G2 k0 k1 W2 s2 => ⟨rfl, _, rfl, ?_⟩⟩
      have hF2 := s2 _ _ (WG.lst hD) hD
      have s02 := sHG.trans s2
      by_cases hk : k = 0
      · subst hk
        refine iteT ⟨_, rfl, (show 3 ≤ sizeLine by decide), fun p hp => ?_⟩
        have z := Same.new (o := .lst (more.map V.str)) hp
        have hp2 : (upd G2 p (.lst (more.map V.str))) p = some (.lst (more.map V.str)) := upd_same
        refine ⟨D1, p, _, more.map V.str, rfl, rfl, z _ _ hF2, hp2, ?_, fun r hr2 => ?_⟩
        · rw [sizeLine_eq, List.length_map]
          show ws.length + 3 ≤ _
          omega
        · have z2 := Same.new (o := .lst (ws.map V.str ++ more.map V.str)) hr2
          refine mid _ r (ws ++ more) _ (s02.trans (.of (z.trans z2))) ((W2.same z).same z2) ?_ ?_ (fun y hy => ?_) ?_
          · rw [List.map_append]
            exact upd_same
          · rw [List.length_append]
            show ws.length + 3 ≤ 15
            omega
          · rcases List.mem_append.mp hy with g | g
            · exact hm y g
            · exact more_ok y g
          · cases e : H r with
            | none => rfl
            | some o =>
              by_cases ne : r = wa
              · rw [ne] at hr2
                obtain ⟨d, m, h1, _⟩ := W2.same z
                have := h1.symm.trans hr2
                cases this
              · have := ((s02.trans (.of z)) _ _ ne e).symm.trans hr2
                cases this
      · have e : decide (V.int k = V.int 0) = false := decide_eq_false fun q => hk (V.int.inj q)
        rw [e]
        exact iteF (mid _ D1 ws _ s02 W2 hF2 (by omega) hm nH)
end
end K2
namespace K2
open PySem L2 Ld
abbrev sLaw : Stmt := top 17
def lawN : List Str := ["_law_script", "_law_start", "_law_well_here", "_law_some", "_law_one", "_law_other", "_law_due", "_law_words_here", "_law_seen", "_law_line", "_law_turn", "_law_count", "_law_sign"]
theorem scLaw : FnScope lawN ["_law_script"] (defScope sLaw) := ⟨rfl, rfl, rfl, by decide +kernel, rfl, by decide +kernel, by decide +kernel⟩
/-! data -/
def tDue (K : PySem.W.Frag) : TE := fun σ H Q => ∃ (p : Addr) (ws : List Str) (p2 : Addr) (us : List Str), σ[4]? = some (some (.ref p)) ∧ σ[5]? = some (some (.ref p2)) ∧ SqT K H p (ws.map V.str) ∧ SqT K H p2 (us.map V.str) ∧ Adr ws ∧ Adr us ∧
  ∀ H', Same H H' → Q (.bl (decide (ws.take us.length = us))) H'
def tRest (K : PySem.W.Frag) : TT := fun σ H Q => ∃ (p : Addr) (ws : List Str) (p2 : Addr) (us : List Str), σ[4]? = some (some (.ref p)) ∧ σ[5]? = some (some (.ref p2)) ∧ σ[6]? = some (some (.bl (decide (ws.take us.length = us)))) ∧ SqT K H p (ws.map V.str) ∧ SqT K H p2 (us.map V.str) ∧ Adr ws ∧ Adr us ∧
  ∀ H', Same H H' → Q false H'

theorem eqv_tups : ∀ l : List (List Str), PyData.eqvAll (l.map wt) (l.map wt) = true
  | [] => rfl
  | a :: l => by
    simp only [List.map_cons, PyData.eqvAll, eqv_tups l, eqv_wt, decide_true, Bool.and_self]
theorem lay_tups : ∀ {l : List (List Str)}, (∀ ws ∈ l, ∀ z ∈ ws, ∀ c ∈ z.cps.toList, c < 128) → PyData.canLayAll0 (l.map wt) = true
  | [], _ => rfl
  | ws :: l, h => by
    have h1 := lay_words (h ws List.mem_cons_self)
    have h2 := lay_tups fun us hu => h us (List.mem_cons_of_mem _ hu)
    have e : (wt ws).canLay0 = PyData.canLayAll0 (ws.map PyData.str) := by
      unfold wt
      simp [PyData.canLay0]
    simp only [List.map_cons, PyData.canLayAll0, e, h1, h2, Bool.and_self]
theorem depth_tups : ∀ l : List (List Str), PyData.depthAll (l.map wt) ≤ 1
  | [] => by simp [PyData.depthAll]
  | ws :: l => by
    have := depth_tups l
    have e : (wt ws).depth = 1 := by
      unfold wt
      simp [PyData.depth, depth_words]
    simp only [List.map_cons, PyData.depthAll, e]
    omega
theorem beg_is (ws : List Str) (n : Nat) : begD ws n = ((List.range n).map fun k => ws.take k).map wt := by
  unfold begD
  rw [List.map_map]
  rfl
theorem eqv_begs (ws : List Str) (n : Nat) : PyData.eqv (.list (begD ws n)) (.list (begD ws n)) = true := by
  rw [beg_is]
  simp only [PyData.eqv]
  exact eqv_tups _
theorem shaped_begs {ws : List Str} (h : Adr ws) (n : Nat) : SeqAt.shaped (.list (begD ws n)) = true := by
  rw [beg_is]
  have h1 := lay_tups (l := (List.range n).map fun k => ws.take k) fun us hu => by
    obtain ⟨k, _, rfl⟩ := List.mem_map.mp hu
    exact (h.take k).asc
  have h2 := depth_tups ((List.range n).map fun k => ws.take k)
  unfold SeqAt.shaped
  generalize ((List.range n).map fun k => ws.take k).map wt = l at h1 h2 ⊢
  simp only [PyData.canLay0, h1, PyData.depth]
  simp
  omega
/-! the list of addresses, the line of words -/
abbrev Pr : Type := Addr × List Str
def Tp (K : PySem.W.Frag) (G : Hp) (prs : List Pr) : Prop := ∀ pr ∈ prs, SqT K G pr.1 (pr.2.map V.str) ∧ Adr pr.2
def refs (prs : List Pr) : List V := prs.map fun pr => V.ref pr.1
theorem Tp.same {K : PySem.W.Frag} {G G' : Hp} {prs : List Pr} (h : Tp K G prs) (s : Same G G') : Tp K G' prs := fun pr hp => ⟨same_T s (h pr hp).1, (h pr hp).2⟩
theorem get_pair {prs : List Pr} {i : Nat} {v : V} (h : (refs prs)[i]? = some v) : ∃ pr, prs[i]? = some pr ∧ v = .ref pr.1 := by
  unfold refs at h
  rw [List.getElem?_map] at h
  cases e : prs[i]? with
  | none => rw [e] at h; cases h
  | some z =>
    rw [e] at h
    cases h
    exact ⟨z, rfl, rfl⟩
theorem pair_get {prs : List Pr} {i : Nat} (h : i < prs.length) : ∃ pr, prs[i]? = some pr ∧ pr ∈ prs ∧ atI (refs prs) (i : Int) = some (.ref pr.1) := by
  have e : prs[i]? = some prs[i] := List.getElem?_eq_getElem h
  refine ⟨prs[i], e, List.getElem_mem h, at_of (j := i) rfl ?_⟩
  unfold refs
  rw [List.getElem?_map, e]
  rfl
def oddB (xs : List Str) (m : Nat) : Bool := decide (m ≤ xs.length) && !decide (seqW m ∈ xs) && (List.range m).all fun j => decide (seqW j ∈ xs)
theorem odd_of {xs : List Str} {m : Nat} (h : oddB xs m = true) : Odd xs m := by
  simp only [oddB, Bool.and_eq_true, Bool.not_eq_true', decide_eq_true_eq, decide_eq_false_iff_not, List.all_eq_true] at h
  exact ⟨h.1.1, h.1.2, fun j hj => h.2 j (List.mem_range.mpr hj)⟩
def tailS : Str := Str.ofString "bcdefghijklmnopqrstuvwxyz"
abbrev elevA : Str := Str.ofString "aaaaaaaaaaa"
abbrev one (c : Nat) : Str := ⟨#[c]⟩
def lineA : List Str := (List.range 12).map fun k => aas (k + 1)
def lineB : List Str := tailS.cps.toList.map fun c => elevA ++ one c
theorem odd0 : oddB [] 0 = true := by decide +kernel
theorem oddb : oddB ["b"] 0 = true := by decide +kernel
theorem odd37 : oddB (lineA ++ lineB) 37 = true := by decide +kernel
theorem odd38 : oddB ((lineA ++ lineB) ++ [Str.ofString "aaaaaaaaaab"]) 38 = true := by decide +kernel
theorem seq37 : seqW 37 = Str.ofString "aaaaaaaaaab" := by decide +kernel
theorem seq38 : seqW 38 = Str.ofString "aaaaaaaaaaba" := by decide +kernel
theorem line_len : (lineA ++ lineB).length = 37 := by decide +kernel
theorem yes {σ : L2.St} {H : Hp} {p q : Hp → Prop} (h : p H) : tYes σ H (fun b H3 => if b = true then p H3 else q H3) := h
theorem neE {x y : V} (h : x = y) : (!decide (x = y)) = false := by
  rw [h]
  simp
section
variable {P : Program} {w : World} {K : PySem.W.Frag} {mg : Str → Option Value} {base : Heap} {f : Addr} {fd : FuncData}
def spLaw (K : PySem.W.Frag) : Sp := fun vs H Q _ => ∃ (a : Addr) (ns : List Int), vs = [.ref a] ∧ SqL K H a (ns.map V.int) ∧ ns.length ≤ 63 ∧ (∀ z ∈ ns, Builtin.Int.intBits z ≤ 1048576) ∧ ∀ H', Q (.bl true) H'
structure Calls (P : Program) (w : World) (K : PySem.W.Frag) (mg : Str → Option Value) (base : Heap) : Prop where
  well : Df P w K mg base 1 "_law_well" ["_law_script", "_law_start"] (spWell K)
  address : Df P w K mg base 3 "_law_address" ["_law_well_here"] (spAddress K)
  before : Df P w K mg base 1 "_law_before" ["_law_one", "_law_other"] (spBefore K)
  due : Df P w K mg base 1 "_law_strange" ["_law_words_here"] (spStrange K)
  words : Df P w K mg base 3 "_law_words" ["_law_well_here"] (spWords K)
  begins : Df P w K mg base 1 "begins" ["address", "beginning"] (spBegins K)
  rest : Df P w K mg base 1 "rest_of" ["address", "beginning"] (spRest K)
  key : Df P w K mg base 1 "address_key" ["address"] (spKey K)
  begs : Df P w K mg base 1 "beginnings" ["address"] (spBegs K)
  strange : Df P w K mg base 2 "strange_word" ["words"] (spStrange K)
theorem ok_law (Fd : Fun K "law" "law" sLaw f fd) (T : Tx mg) (C : Calls P w K mg base) : FnOk P w K mg base CX0 4 f fd ["_law_script"] (spLaw K) := by
  refine Fd.ok scLaw (fun vs H Q E h => ?_) (fun cdv A0 outer s H vs Q E hr h => ?_)
  · obtain ⟨a, ns, rfl, _⟩ := h
    rfl
  · obtain ⟨a, ns, rfl, hS, hlen, hb, q⟩ := h
    have nd := scLaw.nd
    refine ⟨_, pss_cons (ps_for PassesOwn.never rfl (pi_range1 rfl T.range (pa_cons (pe_callB (call_max2 rfl) (by rfl) T.max (by decide +kernel) (pa_cons pe_int (pa_cons (pe_callB (call_min2 rfl) (by rfl) T.min (by decide +kernel) (pa_cons pe_int (pa_cons (pe_callB call_len_seq (by rfl) T.len PySem.boot_len (pa_cons (pv 0) pa_nil)) pa_nil))) pa_nil))) pa_nil)) (pg_name (i := 1) nd rfl (Or.inl rfl)) (pss_cons (ps_set (i := 2) nd rfl (Or.inr rfl) (pe_df C.well hr (pa_cons (pv 0) (pa_cons (pv 1) pa_nil))))
       (pss_cons (ps_setLc (i := 3) (own := [("_law_turn", 10)]) (g := gName 10) (tt := tYes) (by rfl) nd rfl rfl (sw_true rfl rfl rfl (by decide +kernel)) (pi_range1 rfl T.range (pa_cons pe_int pa_nil)) (blkOk_by (own := [("_law_turn", 10)]) (N := lawN) (sc := defScope sLaw) (by decide +kernel)) (fun _ _ _ _ _ => pg_name (i := 10) nd rfl (Or.inl rfl)) (fun _ _ _ _ _ => pts_nil) (fun _ _ _ _ _ => pe_df C.address hr (pa_cons (pv 2) pa_nil)))
       (pss_cons (ps_expr (pe_bm PySem.F.plainAttrs_list PySem.F.slot_list_append PySem.F.type_list_append mt_append (pv 3) (pa_cons (pe_op op_catW (pe_ix ix_list (pv 3) pe_int (fun _ _ => rfl)) (pe_ix ix_list (pv 3) pe_int (fun _ _ => rfl))) pa_nil)))
       (pss_cons (ps_for PassesOwn.never rfl (pi_list (pv 3)) (pg_name (i := 4) nd rfl (Or.inr rfl)) (pss_cons (ps_if (pt_cmpR (op_neD hr.units) (pe_df C.begs hr (pa_cons (pv 4) pa_nil)) (pe_lc (own := [("_law_count", 11)]) (g := gName 11) (tt := tYes) (by rfl) nd (pi_range1 rfl T.range (pa_cons (pe_op op_add (pe_callB call_len_seq (by rfl) T.len PySem.boot_len (pa_cons (pv 4) pa_nil)) pe_int) pa_nil)) (blkOk_by (own := [("_law_count", 11)]) (N := lawN) (sc := defScope sLaw) (by decide +kernel)) (fun _ _ _ _ _ => pg_name (i := 11) nd rfl (Or.inl rfl)) (fun _ _ _ _ _ => pts_nil) (fun _ _ _ _ _ => pe_slice (r := rSlW K) sl_tupK (pv 4) po_none (po_some (pv 11)))) (nomark _)) (pss_one (ps_ret pe_bl)) pss_nil)
       (pss_one (ps_for PassesOwn.never rfl (pi_list (pv 3)) (pg_name (i := 5) nd rfl (Or.inl rfl)) (pss_cons (ps_set (i := 6) nd rfl (Or.inl rfl) (PE.conv (t := tDue K) (pe_and (pe_cmpR op_le (pe_callB call_len_seq (by rfl) T.len PySem.boot_len (pa_cons (pv 5) pa_nil)) (pe_callB call_len_seq (by rfl) T.len PySem.boot_len (pa_cons (pv 4) pa_nil)) (nomark _)) (pe_one (pe_cmpR (op_eqD hr.units) (pe_slice sl_list (pe_callTy call_list_of (by rfl) T.list (by decide +kernel) (pa_cons (pv 4) pa_nil)) po_none (po_some (pe_callB call_len_seq (by rfl) T.len PySem.boot_len (pa_cons (pv 5) pa_nil)))) (pe_callTy call_list_of (by rfl) T.list (by decide +kernel) (pa_cons (pv 5) pa_nil)) (nomark _)))) (fun σ H Q z => by
          obtain ⟨p, ws, p2, us, e4, e5, h1, h2, aw, au, q⟩ := z
          refine ⟨_, e5, p2, _, rfl, .inr h2, _, e4, p, _, rfl, .inr h1, _, _, rfl, rfl, _, rfl, ?_⟩
          rw [List.length_map, List.length_map]
          by_cases hl : us.length ≤ ws.length
          · rw [decide_eq_true (by omega)]
            refine iteT ⟨_, e4, p, _, rfl, .inr h1, fun l hl => ?_⟩
            have z1 := Same.new (o := .lst (ws.map V.str)) hl
            refine ⟨_, e5, p2, _, rfl, .inr (same_T z1 h2), _, rfl, l, _, rfl, .of upd_same, fun l2 hl2 => ?_⟩
            rw [List.length_map, cut_lo] at *
            have z2 := Same.new (o := .lst ((ws.take us.length).map V.str)) hl2
            have z12 := z1.trans z2
            refine ⟨_, e5, p2, _, rfl, .inr (same_T z12 h2), fun l3 hl3 => ?_⟩
            have z3 := Same.new (o := .lst (us.map V.str)) hl3
            refine ⟨.list ((ws.take us.length).map PyData.str), .list (us.map PyData.str), .lst (.of (z3 _ _ upd_same)) (dp_strs _), .lst (.of upd_same) (dp_strs _), shaped_wl (aw.take _).asc, shaped_wl au.asc, ?_⟩
            rw [eqv_wl]
            exact q _ (z12.trans z3)
          · rw [decide_eq_false (by omega)]
            refine iteF ?_
            have := q _ (Same.refl _)
            rw [decide_eq_false (fun e => by
              have := congrArg List.length e
              rw [List.length_take] at this
              omega)] at this
            exact this)))
       (pss_cons (ps_if (pt_cmpR op_ne (pe_callB call_reprB (by rfl) T.repr (by decide +kernel) (pa_cons (pe_df C.begins hr (pa_cons (pv 4) (pa_cons (pv 5) pa_nil))) pa_nil)) (pe_callB call_reprB (by rfl) T.repr (by decide +kernel) (pa_cons (pv 6) pa_nil)) (nomark _)) (pss_one (ps_ret pe_bl)) pss_nil)
       (pss_cons (ps_if (PT.conv (t := tRest K) (PW.pt (pw_and (pt_val (pv 6)) (pw_and1 (pt_cmpR (op_neD hr.units) (pe_df C.rest hr (pa_cons (pv 4) (pa_cons (pv 5) pa_nil))) (pe_callTy call_tuple_of (by rfl) T.tuple (by decide +kernel) (pa_cons (pe_slice sl_list (pe_callTy call_list_of (by rfl) T.list (by decide +kernel) (pa_cons (pv 4) pa_nil)) (po_some (pe_callB call_len_seq (by rfl) T.len PySem.boot_len (pa_cons (pv 5) pa_nil))) po_none) pa_nil)) (nomark _))))) (fun σ H Q z => by
          obtain ⟨p, ws, p2, us, e4, e5, e6, h1, h2, aw, au, q⟩ := z
          refine ⟨_, e6, _, rfl, ?_⟩
          by_cases hd : ws.take us.length = us
          · rw [decide_eq_true hd]
            refine iteT ⟨_, e4, _, e5, p, p2, ws, us, rfl, h1, h2, fun r G s1 hr => ?_⟩
            refine ⟨_, e4, p, _, rfl, .inr (same_T s1 h1), fun l hl => ?_⟩
            have z1 := Same.new (o := .lst (ws.map V.str)) hl
            refine ⟨_, e5, p2, _, rfl, .inr (same_T z1 (same_T s1 h2)), _, rfl, l, _, rfl, .of upd_same, fun l2 hl2 => ?_⟩
            rw [List.length_map, cut_hi] at *
            have z2 := Same.new (o := .lst ((ws.drop us.length).map V.str)) hl2
            have z12 := z1.trans z2
            refine ⟨l2, _, rfl, .inl ⟨.of upd_same, fun t ht => ?_⟩⟩
            have z3 := Same.new (o := .tup ((ws.drop us.length).map V.str)) ht
            refine ⟨wt (ws.drop us.length), wt (ws.drop us.length), dp_wt (same_T (z12.trans z3) hr), dp_wt (.of upd_same), shaped_wt (aw.drop _).asc, shaped_wt (aw.drop _).asc, _, rfl, ?_⟩
            rw [eqv_wt, decide_eq_true rfl]
            exact q _ (s1.trans (z12.trans z3))
          · rw [decide_eq_false hd]
            exact iteF (q _ (Same.refl _)))) (pss_one (ps_ret pe_bl)) pss_nil)
       (pss_cons (ps_if (pt_not (pt_val (pe_callB (call_isa "tuple") (by rfl) T.isi bootN (pa_cons (pe_df C.key hr (pa_cons (pv 4) pa_nil)) (pa_cons (pe_bltn (v := .ty "tuple") (by rfl) T.tuple (by decide +kernel) rfl) pa_nil))))) (pss_one (ps_ret pe_bl)) pss_nil)
       (pss_one (ps_if (pt_cmpR op_ne (pe_cmpR (op_ltD hr.units) (pe_df C.key hr (pa_cons (pv 4) pa_nil)) (pe_df C.key hr (pa_cons (pv 5) pa_nil)) (nomark _)) (pe_df C.before hr (pa_cons (pv 4) (pa_cons (pv 5) pa_nil))) (nomark _)) (pss_one (ps_ret pe_bl)) pss_nil))))))))))
       (pss_cons (ps_set (i := 7) nd rfl (Or.inl rfl) (pe_df C.words hr (pa_cons (pv 2) pa_nil)))
       (pss_cons (ps_set (i := 8) nd rfl (Or.inl rfl) (pe_callTy call_list_of (by rfl) T.list (by decide +kernel) (pa_cons (pv 7) pa_nil)))
       (pss_cons (ps_set (i := 6) nd rfl (Or.inl rfl) (pe_df C.due hr (pa_cons (pv 7) pa_nil)))
       (pss_one (ps_if (PW.pt (pw_or (pt_cmpR op_ne (pe_df C.strange hr (pa_cons (pv 7) pa_nil)) (pv 6) (nomark _)) (pw_or (pt_cmpR op_ne (pe_df C.strange hr (pa_cons (pe_callTy call_tuple_of (by rfl) T.tuple (by decide +kernel) (pa_cons (pv 7) pa_nil)) pa_nil)) (pv 6) (nomark _)) (pw_or1 (pt_cmpR (op_neD hr.units) (pv 7) (pv 8) (nomark _)))))) (pss_one (ps_ret pe_bl)) pss_nil))))))))))
       (pss_cons (ps_set (i := 9) nd rfl (Or.inl rfl) (pe_op op_cat (pe_lc (own := [("_law_count", 11)]) (g := gName 11) (tt := tYes) (by rfl) nd (pi_range2 rfl T.range (pa_cons pe_int (pa_cons pe_int pa_nil))) (blkOk_by (own := [("_law_count", 11)]) (N := lawN) (sc := defScope sLaw) (by decide +kernel)) (fun _ _ _ _ _ => pg_name (i := 11) nd rfl (Or.inl rfl)) (fun _ _ _ _ _ => pts_nil) (fun _ _ _ _ _ => pe_op op_mulS pe_str (pv 11))) (pe_lc (own := [("_law_sign", 12)]) (g := gName 12) (tt := tYes) (by rfl) nd (pi_str pe_str) (blkOk_by (own := [("_law_sign", 12)]) (N := lawN) (sc := defScope sLaw) (by decide +kernel)) (fun _ _ _ _ _ => pg_name (i := 12) nd rfl (Or.inl rfl)) (fun _ _ _ _ _ => pts_nil) (fun _ _ _ _ _ => pe_op op_add_str pe_str (pv 12)))))
       (pss_cons (ps_if (pt_cmpR op_ne (pe_df C.strange hr (pa_cons (pe_op op_cat (pv 9) (pe_lst (pa_cons pe_str pa_nil))) pa_nil)) pe_str (nomark _)) (pss_one (ps_ret pe_bl)) pss_nil)
       (pss_one (ps_ret (pe_and (pe_cmpR op_eq (pe_df C.strange hr (pa_cons (pe_lst pa_nil) pa_nil)) pe_str (nomark _)) (pe_and (pe_cmpR op_eq (pe_df C.strange hr (pa_cons (pe_lst (pa_cons pe_str pa_nil)) pa_nil)) pe_str (nomark _)) (pe_one (pe_cmpR op_eq (pe_df C.strange hr (pa_cons (pv 9) pa_nil)) pe_str (nomark _))))))))), ?_⟩
    have rangeN : ∃ N : Nat, (if (if (((ns.map V.int).length : Nat) : Int) < 5 then (((ns.map V.int).length : Nat) : Int) else 5) > 2 then (if (((ns.map V.int).length : Nat) : Int) < 5 then (((ns.map V.int).length : Nat) : Int) else 5) else 2) = (N : Int) ∧ N ≤ 5 := by
      generalize (ns.map V.int).length = l
      by_cases h1 : (l : Int) < 5
      · rw [if_pos h1]
        by_cases h2 : (l : Int) > 2
        · exact ⟨l, if_pos h2, by omega⟩
        · exact ⟨2, if_neg h2, by decide⟩
      · rw [if_neg h1]
        exact ⟨5, rfl, by decide⟩
    obtain ⟨N, eN, hN⟩ := rangeN
    refine ⟨_, rfl, a, _, rfl, .inl hS, _, _, rfl, _, _, rfl, (N : Int), by rw [eN], by omega, by omega, for_range (lo := 0) (n := (N : Int).toNat) (fun i σ G => Same H G ∧ ∃ u1 u2 u3 u4 u5 u6 u7 u8, σ = [some (.ref a), u1, u2, u3, u4, u5, u6, u7, u8, none, none, none, none]) ⟨Same.refl H, none, none, none, none, none, none, none, none, rfl⟩ ?_ ?_⟩
    · rintro j σ G hj ⟨sG, u1, u2, u3, u4, u5, u6, u7, u8, rfl⟩
      refine ⟨_, rfl, _, rfl, a, ns, _, 1048576, rfl, sG.seq hS, hlen, by decide, by decide, hb, by omega, by omega, fun wa G1 nwa W1 s1 => ?_⟩
      have nH : H wa = none := sG.free nwa
      have up : ∀ {G2 G3 : Hp}, Same H G2 → Sb wa G2 G3 → Same H G3 := fun {G2 G3} x y b o e => y b o (ne_of_none e nH) (x b o e)
      have sH1 := sG.trans s1
      -- the six addresses
      refine ⟨6, rfl, by decide, by decide, fun D hD => ?_⟩
      have nHD : H D = none := sH1.free hD
      refine lc_range (lo := 0) (n := 6) (fun i G2 => Sb wa G1 G2 ∧ Well G2 wa ∧ ∃ prs : List Pr, G2 D = some (.lst (refs prs)) ∧ prs.length = i ∧ Tp K G2 prs ∧ ∀ pr ∈ prs, pr.2.length ≤ 5) ⟨.of (Ld.Same.new hD), W1.same (Ld.Same.new hD), [], upd_same, rfl, (fun pr h => nomatch h), fun pr h => nomatch h⟩ ?_ ?_
      · rintro i G2 hi ⟨s2, W2, prs, hD2, hn, hT, h5⟩
        refine ⟨rfl, ?_⟩
        show tDf (spAddress K) (tCons (tVar 2) tNil) _ _ _
        refine ⟨_, rfl, wa, rfl, W2, fun r ws G3 hr3 hl hm W3 s3 => ?_⟩
        have neD := W2.lst hD2
        have hD3 := s3 D _ neD hD2
        refine ⟨_, hD3, by unfold refs; rw [List.length_map, hn]; exact Nat.lt_of_lt_of_le hi (by decide), fun b o nb eb => ?_, ?_, prs ++ [(r, ws)], ?_, by simp [hn], fun pr hp => ?_, fun pr hp => ?_⟩
        · rw [upd_ne (ne_of_none eb hD)]
          exact s3 b o nb (s2 b o nb eb)
        · obtain ⟨d, m, h1, h2⟩ := W3
          exact ⟨d, m, by rw [upd_ne neD.symm]; exact h1, h2⟩
        · rw [upd_same]
          unfold refs
          rw [List.map_append]
          rfl
        · rcases List.mem_append.mp hp with g | g
          · exact ⟨sqT_list hD3 (seqT W2 s3 (hT pr g).1), (hT pr g).2⟩
          · rw [List.mem_singleton.mp g]
            exact ⟨sqT_list hD3 hr3, Nat.le_trans hl (by decide), hm⟩
        · rcases List.mem_append.mp hp with g | g
          · exact h5 pr g
          · rw [List.mem_singleton.mp g]
            exact hl
      · rintro G2 ⟨s2, W2, prs, hD2, hn, hT, h5⟩
        have sH2 := up sH1 s2
        -- and one of two of them
        obtain ⟨p0, g0, m0, a0⟩ := pair_get (prs := prs) (i := 0) (by omega)
        obtain ⟨p1, g1, m1, a1⟩ := pair_get (prs := prs) (i := 1) (by omega)
        have b0 := h5 p0 m0
        have b1 := h5 p1 m1
        refine ⟨_, rfl, .inl ⟨rfl, _, .of hD2⟩, _, rfl, D, _, 0, _, rfl, rfl, .of hD2, a0, _, rfl, D, _, 1, _, rfl, rfl, .of hD2, a1, p0.1, p1.1, _, _, rfl, rfl, (hT p0 m0).1, (hT p1 m1).1, ?_, fun r G3 s3 hr3 => ?_⟩
        · rw [List.length_map, List.length_map, sizeLine_eq]
          omega
        rw [← List.map_append] at hr3
        have hD3 := s3 _ _ hD2
        refine ⟨D, _, _, rfl, rfl, hD3, by unfold refs; rw [List.length_map, hn]; decide, ?_⟩
        have hT3 : Tp K G3 (prs ++ [(r, p0.2 ++ p1.2)]) := fun pr hp => by
          rcases List.mem_append.mp hp with g | g
          · exact ⟨same_T s3 (hT pr g).1, (hT pr g).2⟩
          · rw [List.mem_singleton.mp g]
            refine ⟨hr3, ?_, fun z hz => ?_⟩
            · rw [List.length_append]
              omega
            · rcases List.mem_append.mp hz with q | q
              · exact (hT p0 m0).2.2 z q
              · exact (hT p1 m1).2.2 z q
        have e7 : refs prs ++ [V.ref r] = refs (prs ++ [(r, p0.2 ++ p1.2)]) := by
          unfold refs
          rw [List.map_append]
          rfl
        rw [e7]
        generalize prs ++ [(r, p0.2 ++ p1.2)] = qs at hT3
        have hD4 : (upd G3 D (.lst (refs qs))) D = some (.lst (refs qs)) := upd_same
        have hT4 : Tp K (upd G3 D (.lst (refs qs))) qs := fun pr hp => ⟨sqT_list hD3 (hT3 pr hp).1, (hT3 pr hp).2⟩
        have W4 : Well (upd G3 D (.lst (refs qs))) wa := by
          obtain ⟨d, m, h1, h2⟩ := W2.same s3
          exact ⟨d, m, by rw [upd_ne (W2.lst hD2).symm]; exact h1, h2⟩
        have sH4 : Same H (upd G3 D (.lst (refs qs))) := fun b o e => by
          rw [upd_ne (ne_of_none e nHD)]
          exact s3 b o (sH2 b o e)
        generalize upd G3 D (.lst (refs qs)) = G4 at hD4 hT4 W4 sH4
        refine ⟨_, rfl, D, rfl, ⟨_, .of hD4⟩, for_list (K := K) (a := D) (xs := refs qs) (fun i σ G => Same G4 G ∧ ∃ v1 v4 v5 v6, σ = [some (.ref a), v1, some (.ref wa), some (.ref D), v4, v5, v6, u7, u8, none, none, none, none])
          ⟨Same.refl _, _, _, _, _, rfl⟩ (fun i σ G _ h => h.1.seq (.of hD4)) ?_ ?_⟩
        · rintro i y σ G hi ⟨s4, v1, v4, v5, v6, rfl⟩
          obtain ⟨⟨p, ws⟩, gp, rfl⟩ := get_pair hi
          obtain ⟨hp4, aw⟩ := hT4 (p, ws) (List.mem_of_getElem? gp)
          have hpG := same_T s4 hp4
          -- its beginnings
          refine ⟨_, rfl, p, ws, rfl, hpG, aw.1, fun r5 G5 s5 d5 => ?_⟩
          refine ⟨_, rfl, p, _, rfl, .inr (same_T s5 hpG), _, _, rfl, rfl, _, rfl, by omega, by have := aw.1; rw [List.length_map]; omega, fun D2 hD2 => ?_⟩
          refine lc_range (lo := 0) (n := ((((ws.map V.str).length : Nat) : Int) + 1).toNat) (fun i G => Same G5 G ∧ ∃ ps : List Addr, G D2 = some (.lst (ps.map V.ref)) ∧ ps.length = i ∧ Tups K G ps ws) ⟨Ld.Same.new hD2, [], upd_same, rfl, fun j p e => nomatch e⟩ ?_ ?_
          · rintro i G hi ⟨s6, ps, hp, hn, ht⟩
            rw [List.length_map] at hi
            have hw12 : ws.length ≤ 12 := aw.1
            refine ⟨rfl, ?_⟩
            show tSl (rSlW K) (tVar 4) tNoPart (tPart (tVar 11)) _ _ _
            refine ⟨_, rfl, _, rfl, _, rfl, p, _, rfl, same_T s6 (same_T s5 hpG), fun r G2 s2 h2 => ?_⟩
            rw [Int.zero_add, cut_lo] at h2
            refine ⟨_, s2 _ _ hp, by rw [List.length_map]; exact Nat.lt_of_le_of_lt (show ps.length ≤ 13 by omega) (by decide), fun b o e => ?_, ps ++ [r], ?_, by simp [hn], ?_⟩
            · rw [upd_ne (ne_of_none e hD2)]
              exact s2 _ _ (s6 b o e)
            · rw [upd_same, List.map_append]
              rfl
            · intro j p' e
              by_cases hj : j < ps.length
              · rw [List.getElem?_append_left hj] at e
                exact sqT_list (s2 _ _ hp) (same_T s2 (ht j p' e))
              · have hj2 : j = ps.length := by
                  have := (List.getElem?_eq_some_iff.mp e).1
                  simp at this
                  omega
                subst hj2
                rw [List.getElem?_append_right (Nat.le_refl _), Nat.sub_self] at e
                cases e
                rw [hn]
                exact sqT_list (s2 _ _ hp) h2
          · rintro G6 ⟨s6, ps, hp, hn, ht⟩
            rw [List.length_map] at hn
            have e1 : ps.length = ws.length + 1 := by omega
            have d6 := tups_beg ht
            rw [e1] at d6
            refine ⟨.list (begD ws (ws.length + 1)), .list (begD ws (ws.length + 1)), dp_same s6 d5, .lst (.of hp) d6, shaped_begs aw _, shaped_begs aw _, _, rfl, ?_⟩
            rw [eqv_begs]
            have s46 := s4.trans (s5.trans s6)
            refine iteF ⟨_, rfl, D, rfl, ⟨_, s46.seq (.of hD4)⟩, for_list (K := K) (a := D) (xs := refs qs) (fun i σ G => Same G4 G ∧ ∃ v5 v6, σ = [some (.ref a), v1, some (.ref wa), some (.ref D), some (.ref p), v5, v6, u7, u8, none, none, none, none])
              ⟨s46, _, _, rfl⟩ (fun i σ G _ h => h.1.seq (.of hD4)) ?_ ?_⟩
            · rintro i2 y σ G7 hi2 ⟨s7, v5, v6, rfl⟩
              obtain ⟨⟨p2, us⟩, gp2, rfl⟩ := get_pair hi2
              obtain ⟨hq4, au⟩ := hT4 (p2, us) (List.mem_of_getElem? gp2)
              -- due
              refine ⟨p, ws, p2, us, rfl, rfl, same_T s7 hp4, same_T s7 hq4, aw, au, fun G8 s8 => ?_⟩
              have t8 := s7.trans s8
              -- begins
              refine ⟨_, rfl, _, rfl, p, p2, ws, us, rfl, same_T t8 hp4, same_T t8 hq4, aw, au, fun G9 s9 => ⟨_, rfl, _, rfl, _, rfl, rfl, _, rfl, ?_⟩⟩
              rw [neE rfl]
              have t9 := t8.trans s9
              -- the rest
              refine iteF ⟨p, ws, p2, us, rfl, rfl, rfl, same_T t9 hp4, same_T t9 hq4, aw, au, fun G10 s10 => ?_⟩
              have t10 := t9.trans s10
              -- the key is a tuple
              refine iteF ⟨_, rfl, p, ws, rfl, same_T t10 hp4, fun r11 G11 s11 d11 => ?_⟩
              have t11 := t10.trans s11
              refine ⟨_, rfl, .type (kindOf (keyD ws)), true, Dp.ty d11, kit_tuple (keyD ws), _, rfl, iteF ?_⟩
              -- the order of the keys
              refine ⟨_, rfl, p, ws, rfl, same_T t11 hp4, fun r12 G12 s12 d12 => ⟨_, rfl, p2, us, rfl, same_T (t11.trans s12) hq4, fun r13 G13 s13 d13 => ?_⟩⟩
              have t13 := t11.trans (s12.trans s13)
              refine ⟨keyD ws, keyD us, dp_same s13 d12, d13, alike_key ws us, (fun e => nomatch e), ?_, ?_⟩
              · have e1 : (keyD ws).depth ≤ 64 := by
                  unfold keyD wt
                  simp [PyData.depth, PyData.depthAll, depth_words]
                exact e1
              · refine ⟨_, rfl, _, rfl, p, p2, ws, us, rfl, same_T t13 hp4, same_T t13 hq4, fun G14 s14 => ⟨rfl, _, rfl, ?_⟩⟩
                rw [lt_key, neE rfl]
                exact iteF ⟨t13.trans s14, _, _, rfl⟩
            · rintro σ G ⟨s7, v5, v6, rfl⟩
              exact ⟨s7, v1, _, v5, v6, rfl⟩
        · rintro σ G ⟨s4, v1, v4, v5, v6, rfl⟩
          have W5 := W4.same s4
          refine ⟨_, rfl, wa, rfl, W5, fun r ws G5 hr5 hl hm W6 s5 => ?_⟩
          have a5 := up (sH4.trans s4) s5
          have hm' : ∀ z ∈ ws, ∀ c ∈ z.cps.toList, c < 128 := fun z hz => (hm z hz).2
          have hl39 : ws.length ≤ 39 := by omega
          refine ⟨_, rfl, r, _, rfl, .inl (.of hr5), fun l nl => ?_⟩
          have z1 := Same.new (o := .lst (ws.map V.str)) nl
          have hl1 : (upd G5 l (.lst (ws.map V.str))) l = some (.lst (ws.map V.str)) := upd_same
          have hr6 := z1 _ _ hr5
          generalize upd G5 l (.lst (ws.map V.str)) = G6 at z1 hl1 hr6
          refine ⟨_, rfl, r, ws, rfl, .inl (.of hr6), hl39, fun m G7 o7 s7 => ?_⟩
          have hr7 := s7 _ _ hr6
          refine ⟨_, rfl, r, ws, rfl, .inl (.of hr7), hl39, fun m2 G8 o8 s8 => ⟨_, rfl, rfl, _, rfl, ?_⟩⟩
          have e8 := o8.one o7
          subst e8
          rw [neE rfl]
          have hr8 := s8 _ _ hr7
          refine iteF ⟨_, rfl, r, _, rfl, .inl ⟨.of hr8, fun t nt => ?_⟩⟩
          have z9 := Same.new (o := .tup (ws.map V.str)) nt
          refine ⟨t, ws, rfl, .inr (.of upd_same), hl39, fun m3 G10 o10 s10 => ⟨_, rfl, rfl, _, rfl, ?_⟩⟩
          have e10 := o10.one o7
          subst e10
          rw [neE rfl]
          have t10 := s7.trans (s8.trans (z9.trans s10))
          refine iteF ⟨_, rfl, _, rfl, .list (ws.map PyData.str), .list (ws.map PyData.str), .lst (.of (t10 _ _ hr6)) (dp_strs ws), .lst (.of (t10 _ _ hl1)) (dp_strs ws), shaped_wl hm', shaped_wl hm', _, rfl, ?_⟩
          rw [eqv_wl, decide_eq_true rfl]
          exact iteF ⟨a5.trans (z1.trans t10), _, _, _, _, _, _, _, _, rfl⟩
    · rintro σ G ⟨sG, u1, u2, u3, u4, u5, u6, u7, u8, rfl⟩
      refine ⟨1, 13, rfl, ⟨by decide, by decide, by decide, by decide⟩, fun D hD => ?_⟩
      refine lc_range (lo := 1) (n := 12) (fun i G2 => G2 D = some (.lst (((List.range i).map fun k => aas (k + 1)).map V.str))) upd_same ?_ ?_
      · rintro i G2 hi h2
        refine ⟨rfl, ?_⟩
        show tOp rMulS (tC (.str "a")) (tVar 11) _ _ _
        refine ⟨_, rfl, _, i + 1, rfl, ?_, by decide, by omega, _, h2, ?_, ?_⟩
        · rw [Int.add_comm]
          rfl
        · rw [List.length_map, List.length_map, List.length_range]
          exact Nat.lt_of_lt_of_le hi (by decide)
        · rw [upd_same, List.range_succ, List.map_append, List.map_append]
          rfl
      · rintro G2 h2
        refine ⟨_, rfl, fun D2 hD2 => ?_⟩
        refine lc_str (x := tailS) (fun i G3 => G3 D = some (.lst (lineA.map V.str)) ∧ G3 D2 = some (.lst (((tailS.cps.toList.take i).map fun c => elevA ++ one c).map V.str))) ⟨?_, upd_same⟩ ?_ ?_
        · exact Ld.Same.new hD2 _ _ h2
        · rintro i c G3 hc ⟨h3, h4⟩
          have hlt : i < tailS.cps.size := (Array.getElem?_eq_some_iff.mp hc).1
          have hsz : tailS.cps.size = 25 := by decide +kernel
          refine ⟨rfl, ?_⟩
          refine yes ?_
          have hc2 : tailS.cps.toList[i]? = some c := by simpa using hc
          have ne2 := ne_of_none h2 hD2
          refine ⟨_, rfl, _, _, rfl, rfl, ?_, _, h4, ?_, ?_, ?_⟩
          · rw [sizeLine_eq]
            have e1 : elevA.length = 11 := by decide +kernel
            have e2 : (⟨#[c]⟩ : Str).length = 1 := rfl
            rw [e1, e2]
            decide
          · rw [List.length_map, List.length_map, List.length_take]
            rw [sizeLine_eq]
            omega
          · rw [upd_ne ne2]
            exact h3
          · rw [upd_same, List.take_succ, hc2, List.map_append, List.map_append]
            rfl
        · rintro G3 ⟨h3, h4⟩
          rw [List.take_of_length_le (by simp)] at h4
          have h4 : G3 D2 = some (.lst (lineB.map V.str)) := h4
          refine ⟨D, D2, _, _, rfl, rfl, h3, h4, ?_, fun r hr2 => ?_⟩
          · have := line_len
            rw [List.length_append] at this
            rw [List.length_map, List.length_map, this, sizeLine_eq]
            decide
          rw [← List.map_append]
          have h5 : (upd G3 r (.lst ((lineA ++ lineB).map V.str))) r = some (.lst ((lineA ++ lineB).map V.str)) := upd_same
          generalize upd G3 r (.lst ((lineA ++ lineB).map V.str)) = G4 at h5
          -- the word of the line and one more
          refine ⟨_, rfl, (show 1 ≤ sizeLine by decide), fun p np => ?_⟩
          have z1 := Same.new (o := .lst [V.str (Str.ofString "aaaaaaaaaab")]) np
          have hp1 : (upd G4 p (.lst [V.str (Str.ofString "aaaaaaaaaab")])) p = some (.lst [V.str (Str.ofString "aaaaaaaaaab")]) := upd_same
          refine ⟨r, p, _, _, rfl, rfl, z1 _ _ h5, hp1, ?_, fun p2 np2 => ?_⟩
          · rw [List.length_map, line_len, sizeLine_eq]
            decide
          have z2 := Same.new (o := .lst (((lineA ++ lineB).map V.str) ++ [V.str (Str.ofString "aaaaaaaaaab")])) np2
          refine ⟨p2, (lineA ++ lineB) ++ [Str.ofString "aaaaaaaaaab"], rfl, .inl (.of ?_), ?_, fun m G5 o5 s5 => ⟨rfl, _, rfl, ?_⟩⟩
          · rw [List.map_append]
            exact upd_same
          · rw [List.length_append, line_len]
            decide
          have e5 := o5.one (odd_of odd38)
          subst e5
          rw [neE (congrArg V.str seq38)]
          have h6 := s5 _ _ (z2 _ _ (z1 _ _ h5))
          -- nothing, one word, the line
          refine iteF ⟨(show 0 ≤ sizeLine by decide), fun p3 np3 => ⟨p3, [], rfl, .inl (.of upd_same), by decide, fun m2 G6 o6 s6 => ⟨rfl, _, rfl, ?_⟩⟩⟩
          have e6 := o6.one (odd_of odd0)
          subst e6
          have h7 := s6 _ _ (Ld.Same.new np3 _ _ h6)
          rw [show decide (V.str (seqW 0) = V.str (Str.ofString "a")) = true from decide_eq_true rfl]
          refine iteT ⟨(show 1 ≤ sizeLine by decide), fun p4 np4 => ⟨p4, ["b"], rfl, .inl (.of upd_same), by decide, fun m3 G7 o7 s7 => ⟨rfl, _, rfl, ?_⟩⟩⟩
          have e7 := o7.one (odd_of oddb)
          subst e7
          have h8 := s7 _ _ (Ld.Same.new np4 _ _ h7)
          rw [show decide (V.str (seqW 0) = V.str (Str.ofString "a")) = true from decide_eq_true rfl]
          refine iteT ⟨_, rfl, r, lineA ++ lineB, rfl, .inl (.of h8), by rw [line_len]; decide, fun m4 G8 o8 s8 => ⟨rfl, ?_⟩⟩
          have e8 := o8.one (odd_of odd37)
          subst e8
          rw [show decide (V.str (seqW 37) = V.str (Str.ofString "aaaaaaaaaab")) = true from decide_eq_true (congrArg V.str seq37)]
          exact q _
end
end K2
namespace K2
open PySem L2 Ld
theorem all_mk {l : PySem.W.OpenLaw} {w : World} {K : PySem.W.Frag} {h : Heap} {mg : Str → Option Value} {fa : Addr} (X : K.In h) (G : h.Ns mainGlobals mg) (hfa : mg "law" = some (.ref fa))
    {f1 f2 f3 f4 f5 f6 f7 f8 f9 f10 f11 f12 f13 f14 : Addr}
    {od1 an1 od2 an2 od3 an3 od4 an4 od5 an5 od6 an6 od7 an7 od8 an8 od9 an9 od10 an10 od11 an11 od12 an12 od13 an13 od14 an14 : Option Addr}
    {sl1 sl2 sl3 sl4 sl5 sl6 sl7 sl8 sl9 sl10 sl11 sl12 sl13 sl14 : Array (Option Value)}
    {oc1 kV1 dc1 pm1 cd1 ct1 oc2 kV2 dc2 pm2 cd2 ct2 oc3 kV3 dc3 pm3 cd3 ct3 oc4 kV4 dc4 pm4 cd4 ct4 oc5 kV5 dc5 pm5 cd5 ct5 oc6 kV6 dc6 pm6 cd6 ct6 oc7 kV7 dc7 pm7 cd7 ct7 oc8 kV8 dc8 pm8 cd8 ct8 oc9 kV9 dc9 pm9 cd9 ct9 oc10 kV10 dc10 pm10 cd10 ct10 oc11 kV11 dc11 pm11 cd11 ct11 oc12 kV12 dc12 pm12 cd12 ct12 oc13 kV13 dc13 pm13 cd13 ct13 oc14 kV14 dc14 pm14 cd14 ct14 : Value}
    (a1 : PySem.W.nsIn K mainGlobals "begins" = some (some (.ref f1)))
    (l1 : K.lookup f1 = some ⟨oc1, od1, .func (PySem.W.fnOf "begins" "begins" (defArgs sBegins) (defBody sBegins) (defScope sBegins) .none kV1 dc1 pm1 an1 cd1 ct1), sl1⟩)
    (c1 : PySem.W.codeIn K cd1 "begins" = true) (k1 : PySem.W.keepIn K (.ref f1) = true)
    (a2 : PySem.W.nsIn K mainGlobals "rest_of" = some (some (.ref f2)))
    (l2 : K.lookup f2 = some ⟨oc2, od2, .func (PySem.W.fnOf "rest_of" "rest_of" (defArgs sRest) (defBody sRest) (defScope sRest) .none kV2 dc2 pm2 an2 cd2 ct2), sl2⟩)
    (c2 : PySem.W.codeIn K cd2 "rest_of" = true) (k2 : PySem.W.keepIn K (.ref f2) = true)
    (a3 : PySem.W.nsIn K mainGlobals "address_key" = some (some (.ref f3)))
    (l3 : K.lookup f3 = some ⟨oc3, od3, .func (PySem.W.fnOf "address_key" "address_key" (defArgs sKey) (defBody sKey) (defScope sKey) .none kV3 dc3 pm3 an3 cd3 ct3), sl3⟩)
    (c3 : PySem.W.codeIn K cd3 "address_key" = true) (k3 : PySem.W.keepIn K (.ref f3) = true)
    (a4 : PySem.W.nsIn K mainGlobals "beginnings" = some (some (.ref f4)))
    (l4 : K.lookup f4 = some ⟨oc4, od4, .func (PySem.W.fnOf "beginnings" "beginnings" (defArgs sBegs) (defBody sBegs) (defScope sBegs) .none kV4 dc4 pm4 an4 cd4 ct4), sl4⟩)
    (c4 : PySem.W.codeIn K cd4 "beginnings" = true) (k4 : PySem.W.keepIn K (.ref f4) = true)
    (a5 : PySem.W.nsIn K mainGlobals "_next_word" = some (some (.ref f5)))
    (l5 : K.lookup f5 = some ⟨oc5, od5, .func (PySem.W.fnOf "_next_word" "_next_word" (defArgs sNext) (defBody sNext) (defScope sNext) .none kV5 dc5 pm5 an5 cd5 ct5), sl5⟩)
    (c5 : PySem.W.codeIn K cd5 "_next_word" = true) (k5 : PySem.W.keepIn K (.ref f5) = true)
    (a6 : PySem.W.nsIn K mainGlobals "strange_word" = some (some (.ref f6)))
    (l6 : K.lookup f6 = some ⟨oc6, od6, .func (PySem.W.fnOf "strange_word" "strange_word" (defArgs sStrange) (defBody sStrange) (defScope sStrange) .none kV6 dc6 pm6 an6 cd6 ct6), sl6⟩)
    (c6 : PySem.W.codeIn K cd6 "strange_word" = true) (k6 : PySem.W.keepIn K (.ref f6) = true)
    (a7 : PySem.W.nsIn K mainGlobals "_law_well" = some (some (.ref f7)))
    (l7 : K.lookup f7 = some ⟨oc7, od7, .func (PySem.W.fnOf "_law_well" "_law_well" (defArgs sWell) (defBody sWell) (defScope sWell) .none kV7 dc7 pm7 an7 cd7 ct7), sl7⟩)
    (c7 : PySem.W.codeIn K cd7 "_law_well" = true) (k7 : PySem.W.keepIn K (.ref f7) = true)
    (a8 : PySem.W.nsIn K mainGlobals "_law_draw" = some (some (.ref f8)))
    (l8 : K.lookup f8 = some ⟨oc8, od8, .func (PySem.W.fnOf "_law_draw" "_law_draw" (defArgs sDraw) (defBody sDraw) (defScope sDraw) .none kV8 dc8 pm8 an8 cd8 ct8), sl8⟩)
    (c8 : PySem.W.codeIn K cd8 "_law_draw" = true) (k8 : PySem.W.keepIn K (.ref f8) = true)
    (a9 : PySem.W.nsIn K mainGlobals "_law_choose" = some (some (.ref f9)))
    (l9 : K.lookup f9 = some ⟨oc9, od9, .func (PySem.W.fnOf "_law_choose" "_law_choose" (defArgs sChoose) (defBody sChoose) (defScope sChoose) .none kV9 dc9 pm9 an9 cd9 ct9), sl9⟩)
    (c9 : PySem.W.codeIn K cd9 "_law_choose" = true) (k9 : PySem.W.keepIn K (.ref f9) = true)
    (a10 : PySem.W.nsIn K mainGlobals "_law_address" = some (some (.ref f10)))
    (l10 : K.lookup f10 = some ⟨oc10, od10, .func (PySem.W.fnOf "_law_address" "_law_address" (defArgs sAddress) (defBody sAddress) (defScope sAddress) .none kV10 dc10 pm10 an10 cd10 ct10), sl10⟩)
    (c10 : PySem.W.codeIn K cd10 "_law_address" = true) (k10 : PySem.W.keepIn K (.ref f10) = true)
    (a11 : PySem.W.nsIn K mainGlobals "_law_before" = some (some (.ref f11)))
    (l11 : K.lookup f11 = some ⟨oc11, od11, .func (PySem.W.fnOf "_law_before" "_law_before" (defArgs sBefore) (defBody sBefore) (defScope sBefore) .none kV11 dc11 pm11 an11 cd11 ct11), sl11⟩)
    (c11 : PySem.W.codeIn K cd11 "_law_before" = true) (k11 : PySem.W.keepIn K (.ref f11) = true)
    (a12 : PySem.W.nsIn K mainGlobals "_law_strange" = some (some (.ref f12)))
    (l12 : K.lookup f12 = some ⟨oc12, od12, .func (PySem.W.fnOf "_law_strange" "_law_strange" (defArgs sDue) (defBody sDue) (defScope sDue) .none kV12 dc12 pm12 an12 cd12 ct12), sl12⟩)
    (c12 : PySem.W.codeIn K cd12 "_law_strange" = true) (k12 : PySem.W.keepIn K (.ref f12) = true)
    (a13 : PySem.W.nsIn K mainGlobals "_law_words" = some (some (.ref f13)))
    (l13 : K.lookup f13 = some ⟨oc13, od13, .func (PySem.W.fnOf "_law_words" "_law_words" (defArgs sWords) (defBody sWords) (defScope sWords) .none kV13 dc13 pm13 an13 cd13 ct13), sl13⟩)
    (c13 : PySem.W.codeIn K cd13 "_law_words" = true) (k13 : PySem.W.keepIn K (.ref f13) = true)
    (a14 : PySem.W.nsIn K mainGlobals "law" = some (some (.ref f14)))
    (l14 : K.lookup f14 = some ⟨oc14, od14, .func (PySem.W.fnOf "law" "law" (defArgs sLaw) (defBody sLaw) (defScope sLaw) .none kV14 dc14 pm14 an14 cd14 ct14), sl14⟩)
    (c14 : PySem.W.codeIn K cd14 "law" = true) (k14 : PySem.W.keepIn K (.ref f14) = true)
    (z1 : PySem.W.nsIn K mainGlobals "isinstance" = some none)
    (z2 : PySem.W.nsIn K mainGlobals "int" = some none)
    (z3 : PySem.W.nsIn K mainGlobals "tuple" = some none)
    (z4 : PySem.W.nsIn K mainGlobals "list" = some none)
    (z5 : PySem.W.nsIn K mainGlobals "len" = some none)
    (z6 : PySem.W.nsIn K mainGlobals "range" = some none)
    (z7 : PySem.W.nsIn K mainGlobals "repr" = some none)
    (z8 : PySem.W.nsIn K mainGlobals "max" = some none)
    (z9 : PySem.W.nsIn K mainGlobals "min" = some none)
    (z10 : PySem.W.nsIn K mainGlobals "set" = some none)
    (z11 : PySem.W.nsIn K mainGlobals "zip" = some none)
    {t1 : Tok} (g1 : PySem.W.nsIn K mainGlobals "LETTERS" = some (some (.str abcS t1)))
    {t2 : Tok} (g2 : PySem.W.nsIn K mainGlobals "WORD_LETTERS" = some (some (.int 12 t2)))
    : ∃ fd : FuncData, (∀ (s : Shared) (v : Value), BindsTo s fd ⟨[v], []⟩ [("_law_script", v)]) ∧ ∀ base : Heap, K.In base → base.Ns mainGlobals mg → FnG l.prog w K mg base 4 fa fd ["_law_script"] (spLaw K) := by
  have e := hfa.symm.trans (PySem.W.mg_of X G a14)
  cases e
  have F1 := fun_mk (st := sBegins) l1 c1 k1
  have b1 := F1.binds (ps := ["address", "beginning"]) fun _ _ _ _ _ _ us hl => match us, hl with | [_, _], _ => rfl
  have m1 := PySem.W.mg_of X G a1
  have F2 := fun_mk (st := sRest) l2 c2 k2
  have b2 := F2.binds (ps := ["address", "beginning"]) fun _ _ _ _ _ _ us hl => match us, hl with | [_, _], _ => rfl
  have m2 := PySem.W.mg_of X G a2
  have F3 := fun_mk (st := sKey) l3 c3 k3
  have b3 := F3.binds (ps := ["address"]) fun _ _ _ _ _ _ us hl => match us, hl with | [_], _ => rfl
  have m3 := PySem.W.mg_of X G a3
  have F4 := fun_mk (st := sBegs) l4 c4 k4
  have b4 := F4.binds (ps := ["address"]) fun _ _ _ _ _ _ us hl => match us, hl with | [_], _ => rfl
  have m4 := PySem.W.mg_of X G a4
  have F5 := fun_mk (st := sNext) l5 c5 k5
  have b5 := F5.binds (ps := ["word"]) fun _ _ _ _ _ _ us hl => match us, hl with | [_], _ => rfl
  have m5 := PySem.W.mg_of X G a5
  have F6 := fun_mk (st := sStrange) l6 c6 k6
  have b6 := F6.binds (ps := ["words"]) fun _ _ _ _ _ _ us hl => match us, hl with | [_], _ => rfl
  have m6 := PySem.W.mg_of X G a6
  have F7 := fun_mk (st := sWell) l7 c7 k7
  have b7 := F7.binds (ps := ["_law_script", "_law_start"]) fun _ _ _ _ _ _ us hl => match us, hl with | [_, _], _ => rfl
  have m7 := PySem.W.mg_of X G a7
  have F8 := fun_mk (st := sDraw) l8 c8 k8
  have b8 := F8.binds (ps := ["_law_well_here", "_law_many"]) fun _ _ _ _ _ _ us hl => match us, hl with | [_, _], _ => rfl
  have m8 := PySem.W.mg_of X G a8
  have F9 := fun_mk (st := sChoose) l9 c9 k9
  have b9 := F9.binds (ps := ["_law_well_here", "_law_things"]) fun _ _ _ _ _ _ us hl => match us, hl with | [_, _], _ => rfl
  have m9 := PySem.W.mg_of X G a9
  have F10 := fun_mk (st := sAddress) l10 c10 k10
  have b10 := F10.binds (ps := ["_law_well_here"]) fun _ _ _ _ _ _ us hl => match us, hl with | [_], _ => rfl
  have m10 := PySem.W.mg_of X G a10
  have F11 := fun_mk (st := sBefore) l11 c11 k11
  have b11 := F11.binds (ps := ["_law_one", "_law_other"]) fun _ _ _ _ _ _ us hl => match us, hl with | [_, _], _ => rfl
  have m11 := PySem.W.mg_of X G a11
  have F12 := fun_mk (st := sDue) l12 c12 k12
  have b12 := F12.binds (ps := ["_law_words_here"]) fun _ _ _ _ _ _ us hl => match us, hl with | [_], _ => rfl
  have m12 := PySem.W.mg_of X G a12
  have F13 := fun_mk (st := sWords) l13 c13 k13
  have b13 := F13.binds (ps := ["_law_well_here"]) fun _ _ _ _ _ _ us hl => match us, hl with | [_], _ => rfl
  have m13 := PySem.W.mg_of X G a13
  have F14 := fun_mk (st := sLaw) l14 c14 k14
  have T : Tx mg := ⟨PySem.W.mg_none_of X G z1, PySem.W.mg_none_of X G z2, PySem.W.mg_none_of X G z3, PySem.W.mg_none_of X G z4, PySem.W.mg_none_of X G z5, PySem.W.mg_none_of X G z6, PySem.W.mg_none_of X G z7, PySem.W.mg_none_of X G z8, PySem.W.mg_none_of X G z9, PySem.W.mg_none_of X G z10, PySem.W.mg_none_of X G z11, ⟨_, PySem.W.mg_of X G g1⟩, ⟨_, PySem.W.mg_of X G g2⟩⟩
  refine ⟨PySem.W.fnOf "law" "law" (defArgs sLaw) (defBody sLaw) (defScope sLaw) .none kV14 dc14 pm14 an14 cd14 ct14, fun s v => .of_eq rfl, fun base _ _ => ?_⟩
  have dBegins : Df l.prog w K mg base 1 "begins" ["address", "beginning"] (spBegins K) := ⟨_, _, m1, k1, b1, ok_begins F1 T⟩
  have dRest : Df l.prog w K mg base 1 "rest_of" ["address", "beginning"] (spRest K) := ⟨_, _, m2, k2, b2, ok_rest F2 T⟩
  have dKey : Df l.prog w K mg base 1 "address_key" ["address"] (spKey K) := ⟨_, _, m3, k3, b3, ok_key F3 T⟩
  have dBegs : Df l.prog w K mg base 1 "beginnings" ["address"] (spBegs K) := ⟨_, _, m4, k4, b4, ok_begs F4 T⟩
  have dNext : Df l.prog w K mg base 1 "_next_word" ["word"] spNext := ⟨_, _, m5, k5, b5, ok_next F5 T⟩
  have dStrange : Df l.prog w K mg base 2 "strange_word" ["words"] (spStrange K) := ⟨_, _, m6, k6, b6, ok_strange F6 T dNext⟩
  have dWell : Df l.prog w K mg base 1 "_law_well" ["_law_script", "_law_start"] (spWell K) := ⟨_, _, m7, k7, b7, ok_well F7 T⟩
  have dDraw : Df l.prog w K mg base 1 "_law_draw" ["_law_well_here", "_law_many"] spDraw := ⟨_, _, m8, k8, b8, ok_draw F8 T⟩
  have dChoose : Df l.prog w K mg base 2 "_law_choose" ["_law_well_here", "_law_things"] (spChoose K) := ⟨_, _, m9, k9, b9, ok_choose F9 T dDraw⟩
  have dAddress : Df l.prog w K mg base 3 "_law_address" ["_law_well_here"] (spAddress K) := ⟨_, _, m10, k10, b10, ok_address F10 T dDraw dChoose⟩
  have dBefore : Df l.prog w K mg base 1 "_law_before" ["_law_one", "_law_other"] (spBefore K) := ⟨_, _, m11, k11, b11, ok_before F11 T⟩
  have dDue : Df l.prog w K mg base 1 "_law_strange" ["_law_words_here"] (spStrange K) := ⟨_, _, m12, k12, b12, ok_due F12 T⟩
  have dWords : Df l.prog w K mg base 3 "_law_words" ["_law_well_here"] (spWords K) := ⟨_, _, m13, k13, b13, ok_words F13 T dDraw⟩
  exact FnG.of (ok_law F14 T ⟨dWell, dAddress, dBefore, dDue, dWords, dBegins, dRest, dKey, dBegs, dStrange⟩)
theorem walk {l : PySem.W.OpenLaw} {q : Program} {loose : List Str} {XP : (Str → Option Value) → Heap → Prop} {YP : World → Heap → Prop} {d : DefRec} {K : Params → PySem.W.Frag} (hn : l.most = some 63) (hdf : d.params.defaults = []) (hY : ∀ (w : World) (h : Heap), YP w h → (K w.params).In h)
    (F : ∀ (w : World) (mg : Str → Option Value) (fa : Addr) (h : Heap), (K w.params).In h → h.Ns mainGlobals mg → mg d.name = some (.ref fa) → ∃ fd : FuncData, (∀ (s : Shared) (u : Value), BindsTo s fd ⟨[u], []⟩ [("_law_script", u)]) ∧
      ∀ base : Heap, (K w.params).In base → base.Ns mainGlobals mg → FnG l.prog w (K w.params) mg base 4 fa fd ["_law_script"] (spLaw (K w.params))) : PySem.W.WalkO q loose XP YP l.row.toRowW d [] (fun f vs => PySem.call f vs) :=
  Ld.walk_G (n := 63) (k := 4) (x := "_law_script") (sp := fun w => spLaw (K w.params)) hn (by decide) hdf ⟨rfl, by decide, by decide⟩ hY F fun w H a ns h1 h2 h3 => ⟨a, ns, rfl, h3, h1, h2, fun _ => rfl⟩
end K2
open PySem PySem.W PyProof.Rows
set_option maxRecDepth 100000 in
set_option maxHeartbeats 0 in
theorem PySem.Challenge.cw_leadsever_k02_order_and_beginnings_holds : PySem.Challenge.rw_leadsever_k02_order_and_beginnings.Holds := by
  w_on; o_law; k_head; (case hw => w_witness2)
  k_fill
  refine K2.walk (l := PySem.Challenge.rw_leadsever_k02_order_and_beginnings) rfl rfl (fun w h Y => PySem.W.kIn_of Y) ?F
  case F =>
    intro w mg fa h KX G hmg
    refine' K2.all_mk KX G hmg ?a1 ?l1 ?c1 ?k1 ?a2 ?l2 ?c2 ?k2 ?a3 ?l3 ?c3 ?k3 ?a4 ?l4 ?c4 ?k4 ?a5 ?l5 ?c5 ?k5 ?a6 ?l6 ?c6 ?k6 ?a7 ?l7 ?c7 ?k7 ?a8 ?l8 ?c8 ?k8 ?a9 ?l9 ?c9 ?k9 ?a10 ?l10 ?c10 ?k10 ?a11 ?l11 ?c11 ?k11 ?a12 ?l12 ?c12 ?k12 ?a13 ?l13 ?c13 ?k13 ?a14 ?l14 ?c14 ?k14 ?z1 ?z2 ?z3 ?z4 ?z5 ?z6 ?z7 ?z8 ?z9 ?z10 ?z11 ?g1 ?g2
    (case a1 => k_is)
    (case l1 => k_is)
    (case c1 => k_is)
    (case k1 => k_is)
    (case a2 => k_is)
    (case l2 => k_is)
    (case c2 => k_is)
    (case k2 => k_is)
    (case a3 => k_is)
    (case l3 => k_is)
    (case c3 => k_is)
    (case k3 => k_is)
    (case a4 => k_is)
    (case l4 => k_is)
    (case c4 => k_is)
    (case k4 => k_is)
    (case a5 => k_is)
    (case l5 => k_is)
    (case c5 => k_is)
    (case k5 => k_is)
    (case a6 => k_is)
    (case l6 => k_is)
    (case c6 => k_is)
    (case k6 => k_is)
    (case a7 => k_is)
    (case l7 => k_is)
    (case c7 => k_is)
    (case k7 => k_is)
    (case a8 => k_is)
    (case l8 => k_is)
    (case c8 => k_is)
    (case k8 => k_is)
    (case a9 => k_is)
    (case l9 => k_is)
    (case c9 => k_is)
    (case k9 => k_is)
    (case a10 => k_is)
    (case l10 => k_is)
    (case c10 => k_is)
    (case k10 => k_is)
    (case a11 => k_is)
    (case l11 => k_is)
    (case c11 => k_is)
    (case k11 => k_is)
    (case a12 => k_is)
    (case l12 => k_is)
    (case c12 => k_is)
    (case k12 => k_is)
    (case a13 => k_is)
    (case l13 => k_is)
    (case c13 => k_is)
    (case k13 => k_is)
    (case a14 => k_is)
    (case l14 => k_is)
    (case c14 => k_is)
    (case k14 => k_is)
    (case z1 => k_is)
    (case z2 => k_is)
    (case z3 => k_is)
    (case z4 => k_is)
    (case z5 => k_is)
    (case z6 => k_is)
    (case z7 => k_is)
    (case z8 => k_is)
    (case z9 => k_is)
    (case z10 => k_is)
    (case z11 => k_is)
    (case g1 => k_is)
    (case g2 => k_is)
