import PyProof.Rows.All
import Wide.All
import OpenK.AllK
import Wide.FinOn
import HandS.Base
import HandS.Call
import HandS.List
import HandS.Comp
import HandS.Ends
import HandS.Dict
import HandS.Iter
import HandS.Text
import HandS.Words
import HandS.WordsList
import PyProof.ReprRoads
import HandS.EndBits
import HandS.IsInst
import HandS.StrMore
import HandS.TupAny
import HandS.Conv
import PyProof.ReprLen
import PyProof.StrLawsRepr
import HandS.Exc
import HandS.ExcInit
import HandS.ExcField
import HandS.ExcIs
import HandS.MakeKwOnly
import HandS.More
import HandS.WordsExc
import HandS.Defaults
import PySem.Challenge.RW_leadsever_k04_what_is_a_rule
set_option Elab.async false
set_option linter.all false
set_option maxRecDepth 100000
set_option maxHeartbeats 8000000
/-! Own rules, for any of the laws of this package. -/
namespace Ld
open PySem L2 PyProof.Rows
/-! ### heaps: all stands but the well -/
/-- all that is tracked stays, but what is at wa -/
def Sb (wa : Addr) (H H' : Hp) : Prop := ∀ b o, b ≠ wa → H b = some o → H' b = some o
theorem Sb.refl (wa : Addr) (H : Hp) : Sb wa H H := fun _ _ _ e => e
theorem Sb.trans {wa : Addr} {H1 H2 H3 : Hp} (a : Sb wa H1 H2) (b : Sb wa H2 H3) : Sb wa H1 H3 := fun c o n e => b c o n (a c o n e)
theorem Sb.of {wa : Addr} {H H' : Hp} (s : Same H H') : Sb wa H H' := fun b o _ e => s b o e
theorem Sb.put (wa : Addr) (H : Hp) (o : HO) : Sb wa H (upd H wa o) := fun b u n e => by
  rw [upd_ne n]
  exact e
theorem Same.new {H : Hp} {p : Addr} {o : HO} (h : H p = none) : Same H (upd H p o) := fun b u e => by
  rw [upd_ne (ne_of_none e h)]
  exact e
/-- the well: its two numbers -/
def wellKv (d m : Int) : List (Key × V) := [(Sum.inr "digits", .int d), (Sum.inr "mixed", .int m)]
def Well (H : Hp) (wa : Addr) : Prop := ∃ d m : Int, H wa = some (.dK (wellKv d m)) ∧ 0 ≤ d ∧ 0 ≤ m ∧ m < 2 ^ 40
theorem Well.same {H H' : Hp} {wa : Addr} (W : Well H wa) (s : Same H H') : Well H' wa := by
  obtain ⟨d, m, h, r⟩ := W
  exact ⟨d, m, s _ _ h, r⟩
/-- what the well is not -/
def NotWell : HO → Prop
  | .dK kvs => kvs.length ≠ 2
  | _ => True
theorem Well.ne {H : Hp} {wa b : Addr} {o : HO} (W : Well H wa) (e : H b = some o) (n : NotWell o) : b ≠ wa := by
  obtain ⟨d, m, h, _⟩ := W
  intro z
  subst z
  rw [h] at e
  cases e
  exact n rfl
theorem Well.lst {H : Hp} {wa b : Addr} {xs : List V} (W : Well H wa) (e : H b = some (.lst xs)) : b ≠ wa := W.ne e trivial
section
variable {K : PySem.W.Frag} {H H' : Hp} {wa a : Addr} {xs : List V}
theorem rd_keep {u : HO} (W : Well H wa) (s : Sb wa H H') (n : NotWell u) (h : Rd H a u) : Rd H' a u := by
  rcases h with h | ⟨o, h⟩
  · exact .inl (s a _ (W.ne h n) h)
  · exact .inr ⟨o, s a _ (W.ne h trivial) h⟩
theorem seqL (W : Well H wa) (s : Sb wa H H') (h : SqL K H a xs) : SqL K H' a xs := by
  rcases h with h | h
  · exact .inl (rd_keep W s trivial h)
  · exact .inr h
theorem seqT (W : Well H wa) (s : Sb wa H H') (h : SqT K H a xs) : SqT K H' a xs := by
  rcases h with h | h
  · exact .inl (rd_keep W s trivial h)
  · exact .inr h
theorem same_T (s : Same H H') (h : SqT K H a xs) : SqT K H' a xs := by
  rcases h with (h | ⟨o, h⟩) | h
  · exact .inl (.inl (s _ _ h))
  · exact .inl (.inr ⟨o, s _ _ h⟩)
  · exact .inr h
end
/-! ### data that stays -/
section
variable {K : PySem.W.Frag} {H H' : Hp}
mutual
theorem dp_mono (hL : ∀ a xs, SqL K H a xs → SqL K H' a xs) (hT : ∀ a xs, SqT K H a xs → SqT K H' a xs) : ∀ (d : PyData) (v : V), Dp K H v d → Dp K H' v d
  | .none, _, h => by cases h; exact .non
  | .bool _, _, h => by cases h; exact .bl _
  | .int _, _, h => by cases h; exact .int _
  | .str _, _, h => by cases h; exact .str _
  | .list ds, _, h => by
    cases h with
    | lst a b => exact .lst (hL _ _ a) (dpAll_mono hL hT ds _ b)
  | .tuple ds, _, h => by
    cases h with
    | tup a b => exact .tup (hT _ _ a) (dpAll_mono hL hT ds _ b)
  | .dict _, _, h => by cases h
theorem dpAll_mono (hL : ∀ a xs, SqL K H a xs → SqL K H' a xs) (hT : ∀ a xs, SqT K H a xs → SqT K H' a xs) : ∀ (ds : List PyData) (vs : List V), DpAll K H vs ds → DpAll K H' vs ds
  | [], _, h => by cases h; exact .nil
  | d :: ds, _, h => by
    cases h with
    | cons a b => exact .cons (dp_mono hL hT d _ a) (dpAll_mono hL hT ds _ b)
end
theorem dp_same {v : V} {d : PyData} (s : Same H H') (h : Dp K H v d) : Dp K H' v d := dp_mono (fun _ _ q => s.seq q) (fun _ _ q => same_T s q) d v h
theorem dp_sb {wa : Addr} {v : V} {d : PyData} (W : Well H wa) (s : Sb wa H H') (h : Dp K H v d) : Dp K H' v d := dp_mono (fun _ _ q => seqL W s q) (fun _ _ q => seqT W s q) d v h
theorem dp_strs : ∀ ws : List Str, DpAll K H (ws.map V.str) (ws.map PyData.str)
  | [] => .nil
  | w :: ws => .cons (.str w) (dp_strs ws)
theorem dp_bools : ∀ ws : List Bool, DpAll K H (ws.map V.bl) (ws.map PyData.bool)
  | [] => .nil
  | w :: ws => .cons (.bl w) (dp_bools ws)
theorem dp_append : ∀ {vs ws : List V} {ds es : List PyData}, DpAll K H vs ds → DpAll K H ws es → DpAll K H (vs ++ ws) (ds ++ es)
  | [], _, _, _, .nil, h => h
  | _ :: _, _, _, _, .cons a b, h => .cons a (dp_append b h)
end
/-! ### numbers of any size that a script may give -/
section
variable {X : Cx}
def CMulB (i j : Int) : Prop := Builtin.Int.intBits i + Builtin.Int.intBits j ≤ 2 ^ 27
def CPowB (i j : Int) : Prop := 0 ≤ j ∧ (Builtin.Int.intBits i : Int) * j ≤ 2 ^ 27
theorem mulB_ok {i j : Int} (h : CMulB i j) : IntMulOk i j := by
  intro z
  have z2 := (Bool.and_eq_true_iff.mp z).2
  have z3 := of_decide_eq_true (show decide (((Builtin.Int.intBits i + Builtin.Int.intBits j : Nat) : Int) > bitsLine) = true from z2)
  have e : bitsLine = 2 ^ 27 := rfl
  rw [e] at z3
  have h' : Builtin.Int.intBits i + Builtin.Int.intBits j ≤ 2 ^ 27 := h
  omega
theorem op_mulB : OpR X (binaryOp .Mult) (rI CMulB fun i j => .int (i * j)) := opI fun i j t u s Q E hc q => mul_int q (mulB_ok hc)
theorem op_powB : OpR X (binaryOp .Pow) (rI CPowB fun i j => .int (i ^ j.toNat)) := opI fun i j t u s Q E hc q => pow_int hc.1 hc.2 q
theorem bits_of {i : Int} {n : Nat} (h : i.natAbs < 2 ^ n) : Builtin.Int.intBits i ≤ n := by
  unfold Builtin.Int.intBits
  split
  · exact Nat.zero_le _
  · rename_i hz
    have hz : ¬ i = 0 := fun e => hz (by rw [e]; rfl)
    have h0 : i.natAbs ≠ 0 := fun e => hz (Int.natAbs_eq_zero.mp e)
    have := (Nat.log2_lt h0).mpr h
    omega
theorem of_bits {i : Int} {n : Nat} (h : Builtin.Int.intBits i ≤ n) : i.natAbs < 2 ^ n := by
  unfold Builtin.Int.intBits at h
  by_cases hz : i = 0
  · subst hz
    exact Nat.two_pow_pos n
  · rw [if_neg (by simpa using hz)] at h
    exact (Nat.log2_lt (fun e => hz (Int.natAbs_eq_zero.mp e))).mp (by omega)
end
end Ld
/-! Defs that need to know that no repr runs around them. -/
namespace Ld
open PySem L2 PyProof.Rows
/-- the promise of a def, wherever no repr runs around -/
structure FnG (P : Program) (w : World) (K : PySem.W.Frag) (mg : Str → Option Value) (base : Heap) (k : Nat) (f : Addr) (fd : FuncData) (ps : List Str) (sp : Sp) : Prop where
  long : ∀ vs H Q E, sp vs H Q E → vs.length = ps.length
  goes : ∀ (A : Around) (outer : List Env) (s : Shared) (H : Hp) (args : Args) (us : List Value) (vs : List V) (Q : VK) (E : XK), A.guards = some [] → Room k A → Env0 P w K mg base A outer s H →
    BindsTo s fd args (ps.zip us) → Vals vs us → sp vs H Q E → codeAny (model P w) A (.call (.ref f) args) (CR CX0 outer P w H s Q E) s
section
variable {P : Program} {w : World} {K : PySem.W.Frag} {mg : Str → Option Value} {base : Heap} {k : Nat} {f : Addr} {fd : FuncData} {ps : List Str} {sp : Sp}
theorem FnG.of (F : FnOk P w K mg base CX0 k f fd ps sp) : FnG P w K mg base k f fd ps sp := ⟨F.len, fun A outer s H args us vs Q E _ => F.run A outer s H args us vs Q E⟩
/-- what a body leaves is what the call leaves -/
theorem ends_of {X : Cx} {pins : List (Addr × Obj)} {s' : Shared} {Q : VK} (hx : X.ex = []) {σ' : L2.St} {H' : Hp} {v : V} {u : Value} (J : Inv X pins σ' H' s') (r : RelV v u) (q : Q v H') :
    CE X.outer X.prog X.w X.H_0 X.s_0 Q u s' := by
  have b := J.base
  rw [hx] at b
  exact ⟨v, H', J.os, J.bare, b, J.hok, r, q⟩
/-- a def of the text by its body -/
theorem Fun.okG {x qual : Str} {st : Stmt} {N : List Str} (F : Fun K x qual st f fd) (S : FnScope N ps (defScope st)) (long : ∀ vs H Q E, sp vs H Q E → vs.length = ps.length)
    (body : ∀ (cdv : Value) (A : Around) (outer : List Env) (s : Shared) (H : Hp) (vs : List V) (Q : VK) (E : XK), A.guards = some [] → Room k (A.deeper (envOfC qual (defScope st) s.heap.objs.size f cdv)) → sp vs H Q E →
      ∃ t, PSs (cxOf CX0 P w K mg base N qual (defScope st) f cdv A outer s H E).nox (defBody st) t ∧ t { nx := fun _ H' => Q .non H', rt := Q } (start N vs) H) : FnG P w K mg base (k + 1) f fd ps sp := by
  obtain ⟨oc, od, kV, doc, pm, an, cdv, ct, osl, rfl, lk, hcd⟩ := F.ex
  refine ⟨long, fun A outer s H args us vs Q E hg hr e0 hb r hsp => ?_⟩
  have up : ∀ b o, base.get? b = some o → s.heap.get? b = some o := fun b o e => (e0.bs b o e).1
  have KX : K.In s.heap := e0.mod.kin.keeps up
  have kinds : ∀ y ∈ ps.zip us, (defScope st).names.lookup y.1 = some .local ∨ ((defScope st).names.lookup y.1 = some .cell ∧ ((cellsFrom (s.heap.objs.size + 1) (defScope st).names []).lookup y.1).isSome = true) := by
    rintro ⟨n, v⟩ hy
    rcases S.par n (List.of_mem_zip hy).1 with q | q
    · exact Or.inl q
    · exact Or.inr ⟨q, PySem.W.cellsFrom_some _ _ _ (Or.inl q)⟩
  refine codeAny_call_function hr.depth (KX _ _ lk) rfl S.co S.gen rfl (PySem.W.codeRec_of KX hcd) (hb _ _ _ _ ?_)
  refine wpAny_newFunctionEnv_cells S.kind kinds fun env he s1 x => ?_
  subst he
  refine ⟨(e0.mod.nolimit.keeps up).keeps x.toInCall.keep, codeAny_func ?_⟩
  obtain ⟨t, ht, hq⟩ := body cdv A outer s H vs Q E hg (hr.deeper _) hsp
  refine wpAny_mono (ht.nox.run [] s1 (start N vs) H _ (inv_start S hr.hd e0 (long _ _ _ _ hsp) r x) hq) (fun fl s' hs => ?_) fun e s' hs => hs
  cases fl with
  | ret u =>
    obtain ⟨v, σ', H', J, r, q⟩ := hs
    exact ends_of rfl J r q
  | next =>
    obtain ⟨σ', H', J, q⟩ := hs
    exact ends_of (v := .non) rfl J rfl q
  | brk =>
    obtain ⟨_, _, _, q⟩ := hs
    exact q.elim
  | cont =>
    obtain ⟨_, _, _, q⟩ := hs
    exact q.elim
end
section
variable {X : Cx} {k : Nat} {f : Addr} {fd : FuncData} {ps : List Str} {sp : Sp} {x : Str} {p pos : Pos} {e : Expr} {es : List Expr} {t : TA}
/-- f(e, ..) of such a def -/
theorem pe_callG (F : FnG X.prog X.w X.K X.mg X.base k f fd ps sp) (hG : X.A.guards = some []) (hr : Room k X.A) (hg : Gl X x) (hm : X.mg x = some (.ref f)) (hk : PySem.W.keepIn X.K (.ref f) = true) (hb : Binds X.K fd ps [])
    (ha : PA X (e :: es) t) (hdb : (x == ("__debug__" : Str)) = false := by decide) (he : starEach (e :: es) X.env = (false, eval e X.env) :: starEach es X.env := by rfl)
    (hpl : (backTo pos (starEach es X.env)).any (·.1) = false := by rfl) : PE X (.Call (.Name x p) (e :: es) [] pos) (tCall sp [] E0 t) := by
  refine ⟨fun pins s σ H Q I h => wpAny_Call_Name_kw (ld_glob I hg hm ?_ hdb)⟩
  refine PySem.W.callWith_K (h₀ := X.base) I.ok.mod.kin hk (thn (ha.run pos pins s σ H _ I h) fun us s1 ⟨vs, H1, I1, r, q⟩ => ⟨I1.kIn, ?_⟩) he hpl
  have q : sp (vs ++ []) H1 Q E0 := q
  rw [List.append_nil] at q
  have hl : us.length = ps.length := by
    rw [← r.length]
    exact F.long _ _ _ _ q
  have hb1 := hb s1 us I1.kIn (by rw [List.append_nil]; exact hl)
  rw [List.append_nil] at hb1
  refine wpAny_call (codeAny_mono (F.goes X.A X.stack s1 H1 ⟨us, []⟩ us vs Q E0 hG hr I1.env0 hb1 r q) fun z s2 hq => ?_)
  match z, hq with
  | .ok (.ret u), hq => exact I1.after hq
  | .ok .next, hq => exact False.elim hq
  | .ok .brk, hq => exact False.elim hq
  | .ok .cont, hq => exact False.elim hq
  | .error e, hq => exact False.elim hq
/-- repr of data -/
def Rds (K : PySem.W.Frag) (P : Program) (w : World) (H : Hp) (v : V) (d : PyData) : Prop := ∀ h : Heap, HOk P w H h → K.In h → ∀ u, RelV v u → ∃ as, Reads h u d as ∧ (d.hasDict = true → ¬ sysModules ∈ as)
def Small (d : PyData) : Prop := d.showable = true ∧ d.depth ≤ 40 ∧ d.shown.length ≤ sizeLine
theorem call_repr (hG : X.A.guards = some []) (hu : X.A.units + 64 < cLine) : CallR X (.builtin "repr") (fun xs H Q => ∃ v d, xs = [v] ∧ Rds X.K X.prog X.w H v d ∧ Small d ∧ Q (.str d.shown) H) := by
  intro pins s σ H xs us Q I r h
  obtain ⟨v, d, rfl, hR, ⟨h1, h2, h3⟩, q⟩ := h
  obtain ⟨u, rfl, ru⟩ := vals1 r
  obtain ⟨as, rd, hs⟩ := hR s.heap I.hok I.kIn u ru
  have fin : ∀ h' t tk, (∀ b o, s.heap.get? b = some o → h'.get? b = some o) → EP X pins σ Q (.str d.shown t) { s with heap := h', toks := tk } := fun h' t tk kp =>
    ⟨.str d.shown, H, I.kept kp, ⟨t, rfl⟩, q⟩
  cases v with
  | ref a =>
    cases ru
    exact repr_of_reads' rd h1 hs hG (by omega) (fun _ _ e => e) fin h3
  | non =>
    cases ru
    cases rd
    simp only [PyData.shown] at fin
    exact P.repr_of_none (fin s.heap _ _ fun _ _ e => e)
  | bl b =>
    cases ru
    cases rd
    simp only [PyData.shown] at fin
    exact P.repr_of_bool (fin s.heap _ _ fun _ _ e => e)
  | int i =>
    obtain ⟨t, rfl⟩ := ru
    cases rd
    simp only [PyData.shown] at fin
    exact P.repr_of_int (by simpa [PyData.showable] using h1) (fin s.heap _ _ fun _ _ e => e)
  | str x =>
    obtain ⟨t, rfl⟩ := ru
    cases rd
    simp only [PyData.shown] at fin h3
    exact P.repr_of_str (fin s.heap _ _ fun _ _ e => e) h3
  | byt b =>
    obtain ⟨t, rfl⟩ := ru
    cases rd
  | flt b =>
    obtain ⟨t, rfl⟩ := ru
    cases rd
  | ty n =>
    cases ru
    cases rd
end
end Ld
/-! The end of a law whose defs are of the kind FnG; the script's bits are told. -/
namespace Ld
open PySem L2 PyProof.Rows
section
variable {P : Program} {w : World} {K : PySem.W.Frag} {mg mb : Str → Option Value} {k : Nat} {fa a : Addr} {fd : FuncData} {x : Str} {sp : Sp} {s : Shared} {vs : List Value} {ns : List Int}
/-- what stands behind the law's call -/
def Behind (s : Shared) (r : Result) (s' : Shared) : Prop := r = .ok (.ret (.bool true)) ∧ OldK s.heap s'.heap ∧ s'.os = s.os ∧ AllBare s'.gens
/-- with nothing tracked but (perhaps) the script, locked -/
structure Quiet (P : Program) (w : World) (K : PySem.W.Frag) (a : Addr) (H : Hp) (s : Shared) : Prop where
  ok : HOk P w H s.heap
  one : ∀ b o, H b = some o → b = a ∧ K.lookup a = none ∧ ∃ ob xs, o = .frz ob (.lst xs) ∧ ∃ its n, ob.data = .seq its n
theorem law_goes {H : Hp} (KX : K.In s.heap) (hns : s.heap.Ns mainGlobals mg) (hb : s.heap.Ns builtinsNs mb) (hbb : ∀ x : Str, x ≠ "__name__" → mb x = bootBuiltins x) (hlim : s.heap.NoLimit) (hg : s.gens = #[])
    (q : Quiet P w K a H s) (hr : Room k callerA) (F : ∀ base : Heap, K.In base → base.Ns mainGlobals mg → FnG P w K mg base k fa fd [x] sp) (hbind : ∀ (s : Shared) (u : Value), BindsTo s fd ⟨[u], []⟩ [(x, u)])
    (hsp : sp [.ref a] H (fun v _ => v = .bl true) E0) : codeAny (model P w) callerA (.call (.ref fa) ⟨[.ref a], []⟩) (Behind s) s := by
  have free : ∀ {b : Addr} {o : Obj}, s.heap.get? b = some o → (∀ its n, o.data ≠ .seq its n) → H b = none := fun {b o} e d => by
    cases z : H b with
    | none => rfl
    | some u =>
      obtain ⟨rfl, _, ob, xs, rfl, its, n, hd⟩ := q.one b u z
      obtain ⟨e2, _⟩ := q.ok b _ z
      rw [e] at e2
      cases e2
      exact absurd hd (d its n)
  have nsb : ∀ {b : Addr} {m : Str → Option Value}, s.heap.Ns b m → (hidT s.heap H).Ns b m := fun {b m} ⟨o, es, ep, e, d, r⟩ =>
    ⟨o, es, ep, hidT_get e (free e fun its n z => by rw [d] at z; cases z), d, r⟩
  have Kb : K.In (hidT s.heap H) := fun b o e => hidT_get (KX b o e) (by
    cases z : H b with
    | none => rfl
    | some u =>
      obtain ⟨rfl, hk, _⟩ := q.one b u z
      rw [hk] at e
      cases e)
  have md : Mod K mg (hidT s.heap H) := ⟨Kb, nsb hns, ⟨mb, nsb hb, hbb⟩, let ⟨mc, h1, h2⟩ := hlim; ⟨mc, nsb h1, h2⟩⟩
  have none_in : ∀ b : Addr, ¬ b ∈ ([] : List Addr) := fun b z => nomatch z
  have e0 : Env0 P w K mg (hidT s.heap H) callerA [] s H := ⟨rfl, md, fun b o e => of_hidT e, Nat.le_of_eq (hidT_size _ _), trivial, fun b hb => absurd hb (none_in b), q.ok, .of_eq hg⟩
  refine codeAny_mono ((F _ Kb (nsb hns)).goes callerA [] s H ⟨[.ref a], []⟩ [.ref a] [.ref a] _ E0 rfl hr e0 (hbind s (.ref a)) (.cons rfl .nil) hsp) fun r s' h => ?_
  match r, h with
  | .error e, h => exact False.elim h
  | .ok .next, h => exact False.elim h
  | .ok .brk, h => exact False.elim h
  | .ok .cont, h => exact False.elim h
  | .ok (.ret u), h =>
    obtain ⟨v, H', os, bare, un, ok', rv, (rfl : v = .bl true)⟩ := h
    cases (show u = Value.bool true from rv)
    refine ⟨rfl, OldK.of_keep fun b o e => ?_, os, bare⟩
    cases z : H b with
    | none => exact un.keep b o e z (none_in b) (none_in b)
    | some u =>
      obtain ⟨_, _, ob, xs, rfl, _⟩ := q.one b u z
      obtain ⟨e1, _⟩ := q.ok b _ z
      obtain ⟨e2, _⟩ := ok' b _ (un.frzs b ob _ z)
      rw [e] at e1
      cases e1
      exact e2
theorem ints_vals : ∀ {vs : List Value} {ns : List Int}, IntsAre vs ns → Vals (ns.map V.int) vs
  | _, _, .nil => .nil
  | _, _, .cons n t h => .cons ⟨t, rfl⟩ (ints_vals h)
theorem law_goes_any (KX : K.In s.heap) (hns : s.heap.Ns mainGlobals mg) (hb : s.heap.Ns builtinsNs mb) (hbb : ∀ x : Str, x ≠ "__name__" → mb x = bootBuiltins x) (hlim : s.heap.NoLimit) (hg : s.gens = #[])
    (ha : s.heap.get? a = some { cls := .type "list", data := .seq vs.toArray }) (hi : IntsAre vs ns) (hl : ns.length ≤ sizeLine) (hr : Room k callerA)
    (F : ∀ base : Heap, K.In base → base.Ns mainGlobals mg → FnG P w K mg base k fa fd [x] sp) (hbind : ∀ (s : Shared) (u : Value), BindsTo s fd ⟨[u], []⟩ [(x, u)])
    (hsp : ∀ H : Hp, SqL K H a (ns.map V.int) → sp [.ref a] H (fun v _ => v = .bl true) E0) : codeAny (model P w) callerA (.call (.ref fa) ⟨[.ref a], []⟩) (Behind s) s := by
  have rv := ints_vals hi
  cases hk : K.lookup a with
  | some o =>
    have e := KX a o hk
    rw [ha] at e
    cases e
    have sq : SqL K (fun _ => none) a (ns.map V.int) := .inr ⟨_, vs.toArray, _, hk, rfl, rfl, rfl, by rw [List.size_toArray, hi.length]; exact hl, by simpa using rv⟩
    refine law_goes KX hns hb hbb hlim hg ⟨fun b u z => ?_, fun b u z => ?_⟩ hr F hbind (hsp _ sq)
    · exact absurd (show (none : Option HO) = some u from z) (by simp)
    · exact absurd (show (none : Option HO) = some u from z) (by simp)
  | none =>
    have get : ∀ b u, (fun b => if b = a then some (HO.frz { cls := .type "list", data := .seq vs.toArray } (.lst (ns.map V.int))) else none : Hp) b = some u → b = a ∧ u = .frz { cls := .type "list", data := .seq vs.toArray } (.lst (ns.map V.int)) := fun b u z => by
      have z : (if b = a then some (HO.frz { cls := .type "list", data := .seq vs.toArray } (.lst (ns.map V.int))) else none) = some u := z
      by_cases h : b = a
      · rw [if_pos h] at z
        exact ⟨h, (Option.some.inj z).symm⟩
      · rw [if_neg h] at z
        cases z
    refine law_goes (H := fun b => if b = a then some (.frz { cls := .type "list", data := .seq vs.toArray } (.lst (ns.map V.int))) else none) KX hns hb hbb hlim hg ⟨fun b u z => ?_, fun b u z => ?_⟩ hr F hbind (hsp _ (.inl (.inr ⟨_, if_pos rfl⟩)))
    · obtain ⟨rfl, rfl⟩ := get b u z
      exact ⟨ha, by rw [List.length_map]; exact hl, vs, _, rv, ha⟩
    · obtain ⟨rfl, rfl⟩ := get b u z
      exact ⟨rfl, hk, _, _, rfl, _, _, rfl⟩
end
/-- what k_head leaves open -/
theorem walk_G {l : PySem.W.OpenLaw} {n k : Nat} {q : Program} {loose : List Str} {XP : (Str → Option Value) → Heap → Prop} {YP : World → Heap → Prop} {d : DefRec} {K : Params → PySem.W.Frag} {sp : World → Sp} {x : Str}
    (hn : l.most = some n) (hn2 : n ≤ sizeLine) (hdf : d.params.defaults = []) (hr : Room k callerA) (hY : ∀ (w : World) (h : Heap), YP w h → (K w.params).In h)
    (F : ∀ (w : World) (mg : Str → Option Value) (fa : Addr) (h : Heap), (K w.params).In h → h.Ns mainGlobals mg → mg d.name = some (.ref fa) → ∃ fd : FuncData, (∀ (s : Shared) (u : Value), BindsTo s fd ⟨[u], []⟩ [(x, u)]) ∧
      ∀ base : Heap, (K w.params).In base → base.Ns mainGlobals mg → FnG l.prog w (K w.params) mg base k fa fd [x] (sp w))
    (hsp : ∀ (w : World) (H : Hp) (a : Addr) (ns : List Int), ns.length ≤ n → (∀ z ∈ ns, Builtin.Int.intBits z ≤ 1048576) → SqL (K w.params) H a (ns.map V.int) → sp w [.ref a] H (fun v _ => v = .bl true) E0) :
    PySem.W.WalkO q loose XP YP l.row.toRowW d [] (fun f vs => PySem.call f vs) := by
  refine Att.attach_callB hn hdf fun w s₀ s₁ mg mb fa o pm cd doc a vs ns G Y ho hd hcd hmg hobj hints hlen hbits hg => ?_
  have KX := hY w _ Y
  obtain ⟨fd, hb, hF⟩ := F w mg fa _ KX G.T.g hmg
  exact law_goes_any KX G.T.g G.T.b G.T.builtins G.T.nolimit hg hobj hints (Nat.le_trans hlen hn2) hr hF hb fun H hS => hsp w H a ns hlen hbits hS
end Ld
/-! Things that a law draws: data, with a small dict at most. -/
namespace Ld
open PySem L2 PyProof.Rows
/-- data without a dict, or a dict of at most one text -/
inductive Lf (K : PySem.W.Frag) (H : Hp) : V → PyData → Prop
  | dat {v : V} {d : PyData} : Dp K H v d → Lf K H v d
  | dct0 {a : Addr} : H a = some (.dK []) → Lf K H (.ref a) (.dict [])
  | dct1 {a : Addr} {x y : Str} : H a = some (.dK [(Sum.inr x, .str y)]) → Lf K H (.ref a) (.dict [(.str x, .str y)])
/-- such a one, or a tuple of words with such a one among them -/
inductive Th (K : PySem.W.Frag) (H : Hp) : V → PyData → Prop
  | lf {v : V} {d : PyData} : Lf K H v d → Th K H v d
  | tup {a : Addr} {ws us : List Str} {v : V} {d : PyData} : SqT K H a (ws.map V.str ++ v :: us.map V.str) → Lf K H v d → Th K H (.ref a) (.tuple (ws.map PyData.str ++ d :: us.map PyData.str))
section
variable {K : PySem.W.Frag} {H H' : Hp} {v : V} {d : PyData} {wa : Addr}
theorem Lf.same (s : Same H H') (h : Lf K H v d) : Lf K H' v d := by
  cases h with
  | dat h => exact .dat (dp_same s h)
  | dct0 h => exact .dct0 (s _ _ h)
  | dct1 h => exact .dct1 (s _ _ h)
theorem Th.same (s : Same H H') (h : Th K H v d) : Th K H' v d := by
  cases h with
  | lf h => exact .lf (h.same s)
  | tup a h => exact .tup (same_T s a) (h.same s)
theorem Lf.sb (W : Well H wa) (s : Sb wa H H') (h : Lf K H v d) : Lf K H' v d := by
  cases h with
  | dat h => exact .dat (dp_sb W s h)
  | dct0 h => exact .dct0 (s _ _ (W.ne h (by show (0 : Nat) ≠ 2; decide)) h)
  | dct1 h => exact .dct1 (s _ _ (W.ne h (by show (1 : Nat) ≠ 2; decide)) h)
theorem Th.sb (W : Well H wa) (s : Sb wa H H') (h : Th K H v d) : Th K H' v d := by
  cases h with
  | lf h => exact .lf (h.sb W s)
  | tup a h => exact .tup (seqT W s a) (h.sb W s)
end
/-! ### what repr needs of it -/
mutual
theorem dp_nodict {K : PySem.W.Frag} {H : Hp} : ∀ (d : PyData) (v : V), Dp K H v d → d.hasDict = false
  | .none, _, _ => rfl
  | .bool _, _, _ => rfl
  | .int _, _, _ => rfl
  | .str _, _, _ => rfl
  | .list ds, _, h => by
    cases h with
    | lst a b => simpa [PyData.hasDict] using dpAll_nodict ds _ b
  | .tuple ds, _, h => by
    cases h with
    | tup a b => simpa [PyData.hasDict] using dpAll_nodict ds _ b
  | .dict _, _, h => by cases h
theorem dpAll_nodict {K : PySem.W.Frag} {H : Hp} : ∀ (ds : List PyData) (vs : List V), DpAll K H vs ds → PyData.hasDictAll ds = false
  | [], _, _ => rfl
  | d :: ds, _, h => by
    cases h with
    | cons a b => simp [PyData.hasDictAll, dp_nodict d _ a, dpAll_nodict ds _ b]
end
section
variable {K : PySem.W.Frag} {P : Program} {w : World} {H : Hp} {h : Heap}
mutual
theorem dp_reads (ok : HOk P w H h) (kin : K.In h) : ∀ (d : PyData) (v : V) (u : Value), Dp K H v d → RelV v u → ∃ as, Reads h u d as
  | .none, _, _, z, r => by cases z; cases r; exact ⟨_, .none⟩
  | .bool b, _, _, z, r => by cases z; cases r; exact ⟨_, .bool b⟩
  | .int i, _, _, z, r => by cases z; obtain ⟨t, rfl⟩ := r; exact ⟨_, .int i t⟩
  | .str x, _, _, z, r => by cases z; obtain ⟨t, rfl⟩ := r; exact ⟨_, .str x t⟩
  | .list ds, _, _, z, r => by
    cases z with
    | lst hs ha =>
      cases r
      rcases hs with hs | ⟨o, its, n, hk, hc, hd, hs, hz, rv⟩
      · obtain ⟨z, its, n, rv, e⟩ := hs.ok ok
        obtain ⟨as, hr⟩ := dpAll_reads ok kin ds _ its ha rv
        exact ⟨_, .list e rfl rfl hr⟩
      · obtain ⟨as, hr⟩ := dpAll_reads ok kin ds _ its.toList ha rv
        exact ⟨_, .list (kin _ o hk) hc hs hr⟩
  | .tuple ds, _, _, z, r => by
    cases z with
    | tup hs ha =>
      cases r
      rcases hs with hs | ⟨o, its, n, hk, hc, hs, hz, rv⟩
      · obtain ⟨z, its, rv, o, e, c, n, dt⟩ := hs.ok ok
        obtain ⟨as, hr⟩ := dpAll_reads ok kin ds _ its ha rv
        exact ⟨_, .tuple e c dt hr⟩
      · obtain ⟨as, hr⟩ := dpAll_reads ok kin ds _ its.toList ha rv
        exact ⟨_, .tuple (kin _ o hk) hc hs hr⟩
  | .dict _, _, _, z, _ => by cases z
theorem dpAll_reads (ok : HOk P w H h) (kin : K.In h) : ∀ (ds : List PyData) (vs : List V) (us : List Value), DpAll K H vs ds → Vals vs us → ∃ as, ReadsAll h us ds as
  | [], _, _, z, r => by cases z; cases r; exact ⟨_, .nil⟩
  | d :: ds, _, _, z, r => by
    cases z with
    | cons h1 h2 =>
      cases r with
      | cons r1 r2 =>
        obtain ⟨as, q1⟩ := dp_reads ok kin d _ _ h1 r1
        obtain ⟨bs, q2⟩ := dpAll_reads ok kin ds _ _ h2 r2
        exact ⟨_, .cons q1 q2⟩
end
theorem reads_strs : ∀ (ws : List Str) (us : List Value), Vals (ws.map V.str) us → ReadsAll h us (ws.map PyData.str) []
  | [], _, r => by cases r; exact .nil
  | w :: ws, _, r => by
    cases r with
    | cons r1 r2 =>
      obtain ⟨t, rfl⟩ := r1
      exact .cons (as := []) (bs := []) (.str w t) (reads_strs ws _ r2)
theorem readsAll_append : ∀ {us vs : List Value} {ds es : List PyData} {as bs : List Addr}, ReadsAll h us ds as → ReadsAll h vs es bs → ReadsAll h (us ++ vs) (ds ++ es) (as ++ bs)
  | _, _, _, _, _, _, .nil, r => r
  | _, _, _, _, _, bs, .cons (as := as) (bs := cs) a b, r => by
    rw [List.append_assoc]
    exact .cons a (readsAll_append b r)
theorem Lf.rds {v : V} {d : PyData} (z : Lf K H v d) : Rds K P w H v d := fun h ok kin u r => by
  cases z with
  | dat z =>
    obtain ⟨as, q⟩ := dp_reads ok kin d v u z r
    exact ⟨as, q, fun e => by rw [dp_nodict d v z] at e; cases e⟩
  | @dct0 a z =>
    cases r
    obtain ⟨_, hm, vs, kv, o, es, ep, e1, e2, e3, _, e4, _⟩ := dk_of ok z
    cases kv
    have e5 : es.toList = [] := by
      cases hh : es.toList with
      | nil => rfl
      | cons x y => rw [hh] at e4; cases e4
    refine ⟨_, .dict (kvs := []) (as := []) (bs := []) e1 e2.1 e3 (by rw [e5]; exact .nil) (by rw [e5]; exact .nil), fun _ hin => ?_⟩
    rcases List.mem_cons.mp hin with q | q
    · rw [← q] at hm
      exact absurd hm (by decide)
    · cases q
  | @dct1 a x y z =>
    cases r
    obtain ⟨_, hm, vs, kv, o, es, ep, e1, e2, e3, _, e4, _⟩ := dk_of ok z
    cases kv with
    | @cons _ kv1 _ _ q kv2 =>
      cases kv2
      obtain ⟨q1, q2⟩ := q
      obtain ⟨k1, v1⟩ := kv1
      cases q1
      obtain ⟨t, (rfl : v1 = _)⟩ := q2
      cases hh : es.toList with
      | nil => rw [hh] at e4; cases e4
      | cons x1 x2 =>
        rw [hh] at e4
        cases e4 with
        | cons g1 g2 g3 =>
          cases g3
          have g4 : ∃ t', x1.key = .str x t' := by
            rcases keyIs_shape (show keyIs (.inr x) x1.key = true from g1) with ⟨i, t', z1, _⟩ | ⟨y', t', z1, z2⟩
            · cases z1
            · cases z1
              exact ⟨t', z2⟩
          obtain ⟨t', g4⟩ := g4
          refine ⟨_, .dict (kvs := [(.str x, .str y)]) (as := []) (bs := []) e1 e2.1 e3 ?_ ?_, fun _ hin => ?_⟩
          · rw [hh]
            show ReadsAll h [x1.key] [PyData.str x] []
            rw [g4]
            exact .cons (as := []) (bs := []) (.str x t') .nil
          · rw [hh]
            show ReadsAll h [x1.val] [PyData.str y] []
            rw [g2]
            exact .cons (as := []) (bs := []) (.str y t) .nil
          · rcases List.mem_cons.mp hin with q | q
            · rw [← q] at hm
              exact absurd hm (by decide)
            · cases q
theorem reads_cut (ws us : List Str) {v : V} {l : List Value} (r : Vals (ws.map V.str ++ v :: us.map V.str) l) : ∃ l1 u l2, l = l1 ++ u :: l2 ∧ Vals (ws.map V.str) l1 ∧ RelV v u ∧ Vals (us.map V.str) l2 := by
  induction ws generalizing l with
  | nil =>
    cases r with
    | cons r1 r2 => exact ⟨[], _, _, rfl, .nil, r1, r2⟩
  | cons w ws ih =>
    cases r with
    | cons r1 r2 =>
      obtain ⟨l1, u, l2, e, a, b, c⟩ := ih r2
      exact ⟨_ :: l1, u, l2, by rw [e]; rfl, .cons r1 a, b, c⟩
theorem hasDict_strs : ∀ ws : List Str, PyData.hasDictAll (ws.map PyData.str) = false
  | [] => rfl
  | w :: ws => by simp [PyData.hasDictAll, PyData.hasDict, hasDict_strs ws]
theorem hasDict_append : ∀ ds es : List PyData, PyData.hasDictAll (ds ++ es) = (PyData.hasDictAll ds || PyData.hasDictAll es)
  | [], es => by simp [PyData.hasDictAll]
  | d :: ds, es => by
    rw [List.cons_append]
    simp only [PyData.hasDictAll, hasDict_append ds es, Bool.or_assoc]
theorem Th.rds {v : V} {d : PyData} (z : Th K H v d) : Rds K P w H v d := fun h ok kin u r => by
  cases z with
  | lf z => exact z.rds h ok kin u r
  | @tup a ws us v d ha hv =>
    cases r
    have core : ∀ l, Vals (ws.map V.str ++ v :: us.map V.str) l → ∃ as, ReadsAll h l (ws.map PyData.str ++ d :: us.map PyData.str) as ∧ (d.hasDict = true → ¬ sysModules ∈ as) := fun l rl => by
      obtain ⟨l1, u, l2, rfl, r1, r2, r3⟩ := reads_cut ws us rl
      obtain ⟨as, q1, q2⟩ := hv.rds (P := P) (w := w) h ok kin u r2
      refine ⟨[] ++ (as ++ []), readsAll_append (reads_strs ws l1 r1) (.cons q1 (reads_strs us l2 r3)), ?_⟩
      simpa using q2
    have hd : (PyData.tuple (ws.map PyData.str ++ d :: us.map PyData.str)).hasDict = d.hasDict := by
      show PyData.hasDictAll (ws.map PyData.str ++ d :: us.map PyData.str) = _
      rw [hasDict_append, hasDict_strs]
      simp [PyData.hasDictAll, hasDict_strs]
    rcases ha with hs | ⟨o, its, n, hk, hc, hs, hz, rv⟩
    · obtain ⟨z, its, rv, o, e, c, n, dt⟩ := hs.ok ok
      obtain ⟨as, q1, q2⟩ := core its rv
      exact ⟨as, .tuple e c dt q1, by rw [hd]; exact q2⟩
    · obtain ⟨as, q1, q2⟩ := core its.toList rv
      exact ⟨as, .tuple (kin _ o hk) hc hs q1, by rw [hd]; exact q2⟩
end
/-! ### its kind -/
def kindOf : PyData → String
  | .none => "NoneType"
  | .bool _ => "bool"
  | .int _ => "int"
  | .str _ => "str"
  | .list _ => "list"
  | .tuple _ => "tuple"
  | .dict _ => "dict"
section
variable {K : PySem.W.Frag} {H : Hp} {v : V} {d : PyData}
theorem Dp.ty (z : Dp K H v d) : TyX K H v (.type (kindOf d)) := by
  cases z with
  | non => exact .base .non
  | bl b => exact .base (.bl b)
  | int i => exact .base (.int i)
  | str x => exact .base (.str x)
  | lst hs _ =>
    rcases hs with (hs | ⟨o, hs⟩) | ⟨o, its, n, hk, hc, _⟩
    · exact .base (.lst hs)
    · exact .base (.frz hs)
    · exact .kList hk hc
  | tup hs _ =>
    rcases hs with (hs | ⟨o, hs⟩) | ⟨o, its, n, hk, hc, _⟩
    · exact .base (.tup hs)
    · exact .fTuple hs
    · exact .kTuple hk hc
theorem Lf.ty (z : Lf K H v d) : TyX K H v (.type (kindOf d)) := by
  cases z with
  | dat z => exact Dp.ty z
  | dct0 z => exact .base (.dK z)
  | dct1 z => exact .base (.dK z)
theorem Th.ty (z : Th K H v d) : TyX K H v (.type (kindOf d)) := by
  cases z with
  | lf z => exact z.ty
  | tup hs _ =>
    rcases hs with (hs | ⟨o, hs⟩) | ⟨o, its, n, hk, hc, _⟩
    · exact .base (.tup hs)
    · exact .fTuple hs
    · exact .kTuple hk hc
def isStrD : PyData → Bool
  | .str _ => true
  | _ => false
def isTupD : PyData → Bool
  | .tuple _ => true
  | _ => false
def isIntD : PyData → Bool
  | .int _ => true
  | .bool _ => true
  | _ => false
def isBoolD : PyData → Bool
  | .bool _ => true
  | _ => false
theorem kit_str (d : PyData) : PySem.W.kitOne K (.type (kindOf d)) (.type "str") = some (isStrD d) := by
  cases d <;> (simp only [kindOf, isStrD, isTupD, isIntD, isBoolD]; exact kit_ty (by decide +kernel))
theorem kit_tuple (d : PyData) : PySem.W.kitOne K (.type (kindOf d)) (.type "tuple") = some (isTupD d) := by
  cases d <;> (simp only [kindOf, isStrD, isTupD, isIntD, isBoolD]; exact kit_ty (by decide +kernel))
theorem kit_int (d : PyData) : PySem.W.kitOne K (.type (kindOf d)) (.type "int") = some (isIntD d) := by
  cases d <;> (simp only [kindOf, isStrD, isTupD, isIntD, isBoolD]; exact kit_ty (by decide +kernel))
theorem kit_bool (d : PyData) : PySem.W.kitOne K (.type (kindOf d)) (.type "bool") = some (isBoolD d) := by
  cases d <;> (simp only [kindOf, isStrD, isTupD, isIntD, isBoolD]; exact kit_ty (by decide +kernel))
/-- the items of a tuple, each with its data -/
def Its (K : PySem.W.Frag) (H : Hp) (xs : List V) (ds : List PyData) : Prop := xs.length = ds.length ∧ ∀ (i : Nat) (x : V), xs[i]? = some x → ∃ d, ds[i]? = some d ∧ Lf K H x d
theorem its_of : ∀ {xs : List V} {ds : List PyData}, DpAll K H xs ds → Its K H xs ds
  | _, _, .nil => ⟨rfl, fun i x e => by simp at e⟩
  | _, _, .cons a b => by
    obtain ⟨h1, h2⟩ := its_of b
    refine ⟨by simp [h1], fun i x e => ?_⟩
    cases i with
    | zero =>
      simp at e
      subst e
      exact ⟨_, rfl, .dat a⟩
    | succ i =>
      obtain ⟨d, q1, q2⟩ := h2 i x (by simpa using e)
      exact ⟨d, by simpa using q1, q2⟩
theorem Th.its {ds : List PyData} (z : Th K H v (.tuple ds)) : ∃ a xs, v = .ref a ∧ SqT K H a xs ∧ Its K H xs ds := by
  cases z with
  | lf z =>
    cases z with
    | dat z =>
      cases z with
      | tup hs ha => exact ⟨_, _, rfl, hs, its_of ha⟩
  | @tup a ws us v d ha hv =>
    refine ⟨_, _, rfl, ha, by simp, fun i x e => ?_⟩
    by_cases h1 : i < ws.length
    · rw [List.getElem?_append_left (by simpa using h1), List.getElem?_map] at e
      cases g : ws[i]? with
      | none => rw [g] at e; cases e
      | some y =>
        rw [g] at e
        cases e
        exact ⟨.str y, by rw [List.getElem?_append_left (by simpa using h1), List.getElem?_map, g]; rfl, .dat (.str y)⟩
    · rw [List.getElem?_append_right (by simpa using h1), List.length_map] at e
      cases h2 : i - ws.length with
      | zero =>
        rw [h2] at e
        cases e
        exact ⟨d, by rw [List.getElem?_append_right (by simpa using h1), List.length_map, h2]; rfl, hv⟩
      | succ j =>
        rw [h2] at e
        have e : (us.map V.str)[j]? = some x := by simpa using e
        rw [List.getElem?_map] at e
        cases g : us[j]? with
        | none => rw [g] at e; cases e
        | some y =>
          rw [g] at e
          cases e
          refine ⟨.str y, ?_, .dat (.str y)⟩
          rw [List.getElem?_append_right (by simpa using h1), List.length_map, h2]
          show (us.map PyData.str)[j]? = some (PyData.str y)
          rw [List.getElem?_map, g]
          rfl
end
end Ld
/-! Words, letter by letter. -/
namespace Ld
open PySem L2 PyProof.Rows
def low (c : Nat) : Bool := decide (97 ≤ c) && decide (c ≤ 122)
def lows (z : Str) : Bool := z.cps.toList.all low
def wordS (z : Str) : Bool := decide (1 ≤ z.length) && decide (z.length ≤ 12) && lows z
theorem sign_facts : ∀ c : Fin 128, (Unicode.isAlpha c.val && !(Unicode.isUpper c.val || Unicode.isTitle c.val)) = low c.val ∧ (low c.val = true → Unicode.isLower c.val = true) := by decide +kernel
theorem sign_fact {c : Nat} (h : c < 128) : (Unicode.isAlpha c && !(Unicode.isUpper c || Unicode.isTitle c)) = low c ∧ (low c = true → Unicode.isLower c = true) := sign_facts ⟨c, h⟩
theorem low_lt {c : Nat} (h : low c = true) : c < 128 := by
  simp only [low, Bool.and_eq_true, decide_eq_true_eq] at h
  omega
theorem arr_all (z : Str) (p : Nat → Bool) : z.cps.all p = z.cps.toList.all p := by simp
theorem arr_any (z : Str) (p : Nat → Bool) : z.cps.any p = z.cps.toList.any p := by simp
theorem lows_eq {z : Str} (h : 1 ≤ z.length) : (Txt.isascii z && (Txt.isalpha z && Txt.islower z)) = lows z := by
  unfold Txt.isascii Txt.isalpha Txt.islower lows
  rw [arr_all, arr_all, arr_any, arr_any]
  have hl : (decide (z.length > 0)) = true := decide_eq_true h
  have hl2 : z.cps.toList.length = z.length := by simp [Str.length]
  rw [hl, Bool.true_and]
  generalize z.cps.toList = l at hl2
  rw [Bool.eq_iff_iff]
  simp only [Bool.and_eq_true, List.all_eq_true, List.any_eq_true, Bool.not_eq_true', decide_eq_true_eq]
  constructor
  · rintro ⟨h1, h2, _, h4⟩ c hc
    have f := (sign_fact (h1 c hc)).1
    rw [← f, Bool.and_eq_true]
    refine ⟨h2 c hc, ?_⟩
    have h5 := List.any_eq_false.mp h4 c hc
    simpa using h5
  · intro hh
    have f : ∀ c ∈ l, c < 128 ∧ Unicode.isAlpha c = true ∧ (Unicode.isUpper c || Unicode.isTitle c) = false ∧ Unicode.isLower c = true := fun c hc => by
      have h0 := hh c hc
      have h1 := low_lt h0
      obtain ⟨f1, f2⟩ := sign_fact h1
      rw [h0, Bool.and_eq_true] at f1
      exact ⟨h1, f1.1, by simpa using f1.2, f2 h0⟩
    refine ⟨fun c hc => (f c hc).1, fun c hc => (f c hc).2.1, ?_, List.any_eq_false.mpr fun c hc => by rw [(f c hc).2.2.1]; simp⟩
    cases l with
    | nil =>
      simp at hl2
      omega
    | cons c r => exact ⟨c, List.mem_cons_self, (f c List.mem_cons_self).2.2.2⟩
theorem one_lt (a b : Nat) : decide (([a] : List Nat) < [b]) = decide (a < b) := by
  by_cases h : a < b
  · rw [decide_eq_true h, decide_eq_true]
    exact List.Lex.rel h
  · rw [decide_eq_false h, decide_eq_false]
    intro z
    cases z with
    | rel q => exact h q
    | cons q => cases q
/-- what the data says -/
def numD (hi : Int) : PyData → Bool
  | .int i => decide (0 ≤ i) && decide (i ≤ hi)
  | _ => false
def wordD : PyData → Bool
  | .str z => wordS z
  | _ => false
def addrD : PyData → Bool
  | .tuple ds => ds.all wordD
  | _ => false
/-- a short text of plain signs -/
def Asc (z : Str) : Prop := z.length ≤ 100 ∧ ∀ c ∈ z.cps.toList, c < 128
def FitS (d : PyData) : Prop := ∀ z, d = .str z → Asc z
def Fits (d : PyData) : Prop := FitS d ∧ ∀ ds, d = .tuple ds → ds.length ≤ 10000 ∧ ∀ e ∈ ds, FitS e
theorem Asc.size {z : Str} (h : Asc z) : z.length ≤ sizeLine := Nat.le_trans h.1 (by decide)
theorem FitS.of {d : PyData} (h : ∀ z, d ≠ .str z) : FitS d := fun z e => absurd e (h z)
end Ld
/-! Short rules. -/
namespace Ld
open PySem L2 PyProof.Rows
section
variable {X : Cx}
theorem PE.conv {e : Expr} {t t' : TE} (h : PE X e t') (c : ∀ σ H Q, t σ H Q → t' σ H Q) : PE X e t := ⟨fun pins s σ H Q I z => h.run pins s σ H Q I (c σ H Q z)⟩
theorem PT.conv {e : Expr} {t t' : TT} (h : PT X e t') (c : ∀ σ H Q, t σ H Q → t' σ H Q) : PT X e t := ⟨fun pins s σ H Q I z => h.run pins s σ H Q I (c σ H Q z)⟩
theorem OpR.conv {f : Value → Value → Sem Value} {r r' : R2} (h : OpR X f r') (c : ∀ x y H Q, r x y H Q → r' x y H Q) : OpR X f r := fun pins s σ H x y v u Q I rx ry z => h pins s σ H x y v u Q I rx ry (c x y H Q z)
theorem CallR.conv {f : Value} {r r' : List V → Hp → VK → Prop} (h : CallR X f r') (c : ∀ xs H Q, r xs H Q → r' xs H Q) : CallR X f r := fun pins s σ H xs us Q I r z => h pins s σ H xs us Q I r (c xs H Q z)
/-- isinstance(a, T) -/
def rIsa (K : PySem.W.Frag) (T : String) (x : V) (H : Hp) (Q : VK) : Prop := ∃ t b, TyX K H x t ∧ PySem.W.kitOne K t (.type T) = some b ∧ Q (.bl b) H
theorem call_isa (T : String) : CallR X (.builtin "isinstance") (fun xs H Q => ∃ x, xs = [x, .ty T] ∧ rIsa X.K T x H Q) := CallR.conv call_isi fun xs H Q ⟨x, e, t, b, h1, h2, q⟩ => ⟨x, .ty T, t, .type T, b, e, .ty T, h1, h2, q⟩
/-- t[lo:hi], whatever object it is -/
def rSlW (K : PySem.W.Frag) : V → Option Int → Option Int → Hp → VK → Prop := fun x lo hi H Q => ∃ a xs, x = .ref a ∧ SqT K H a xs ∧ ∀ r H', Same H H' → SqT K H' r (cutV xs lo hi) → Q (.ref r) H'
theorem cut_whole {xs : List V} {lo hi : Option Int} (h : HT.sIx xs.length 0 lo = 0 ∧ HT.sIx xs.length xs.length hi = xs.length) : cutV xs lo hi = xs := by
  unfold cutV
  rw [h.1, h.2, List.drop_zero, Nat.sub_zero, List.take_length]
theorem sl_tupW : SlR X (rSlW X.K) := by
  intro pins s σ H x v vl vu lo hi sl Q I rx hs pl pu h
  obtain ⟨a, xs, rfl, hx, q⟩ := h
  exact sl_tupA pins s σ H _ v vl vu lo hi sl Q I rx hs pl pu ⟨a, xs, rfl, hx, fun hw => q a H (Same.refl H) (by rw [cut_whole hw]; exact hx), fun _ p hp => q p _ (Same.new hp) (.of upd_same)⟩
/-- t + u, whatever object it is -/
def rCatW (K : PySem.W.Frag) : R2 := fun x y H Q => ∃ a b xs ys, x = .ref a ∧ y = .ref b ∧ SqT K H a xs ∧ SqT K H b ys ∧ xs.length + ys.length ≤ sizeLine ∧ ∀ r H', Same H H' → SqT K H' r (xs ++ ys) → Q (.ref r) H'
theorem op_catW : OpR X (binaryOp .Add) (rCatW X.K) := OpR.conv op_catA fun x y H Q ⟨a, b, xs, ys, e1, e2, h1, h2, hz, q⟩ => by
  refine ⟨a, b, xs, ys, e1, e2, h1, h2, hz, fun e => ?_, fun _ e => ?_, fun _ _ p hp => q p _ (Same.new hp) (.of upd_same)⟩
  · subst e
    exact q b H (Same.refl H) h2
  · subst e
    exact q a H (Same.refl H) (by rw [List.append_nil]; exact h1)
/-- a tuple displayed, a list displayed: what is said of them -/
theorem bootN : bootBuiltins "isinstance" = some (.builtin "isinstance") := by decide +kernel
end
end Ld
namespace Ld
open PySem L2 PyProof.Rows
/-- f(..) of a def without default values that lets nothing out -/
structure Df (P : Program) (w : World) (K : PySem.W.Frag) (mg : Str → Option Value) (base : Heap) (k : Nat) (x : Str) (ps : List Str) (sp : Sp) : Prop where
  ex : ∃ f fd, mg x = some (.ref f) ∧ PySem.W.keepIn K (.ref f) = true ∧ Binds K fd ps [] ∧ FnOk P w K mg base CX0 k f fd ps sp
structure DfG (P : Program) (w : World) (K : PySem.W.Frag) (mg : Str → Option Value) (base : Heap) (k : Nat) (x : Str) (ps : List Str) (sp : Sp) : Prop where
  ex : ∃ f fd, mg x = some (.ref f) ∧ PySem.W.keepIn K (.ref f) = true ∧ Binds K fd ps [] ∧ FnG P w K mg base k f fd ps sp
def tDf (sp : Sp) (t : TA) : TE := fun σ H Q => t σ H fun vs H1 => sp vs H1 Q E0
section
variable {X : Cx} {k : Nat} {ps : List Str} {sp : Sp} {x : Str} {p pos : Pos} {e : Expr} {es : List Expr} {t : TA}
theorem pe_df {j : Nat} (D : Df X.prog X.w X.K X.mg X.base k x ps sp) (hr : Room j X.A) (ha : PA X (e :: es) t) (hj : k ≤ j := by decide) (hg : Gl X x := by rfl) (hdb : (x == ("__debug__" : Str)) = false := by decide) (he : starEach (e :: es) X.env = (false, eval e X.env) :: starEach es X.env := by rfl)
    (hpl : (backTo pos (starEach es X.env)).any (·.1) = false := by rfl) : PE X (.Call (.Name x p) (e :: es) [] pos) (tDf sp t) := by
  obtain ⟨f, fd, h1, h2, h3, h4⟩ := D.ex
  have z := pe_call (pos := pos) (p := p) h4 (hr.mono hj) hg h1 h2 h3 .nil pass0 ha hdb he hpl
  have e : tCall sp [] E0 t = tDf sp t := by
    funext σ H Q
    unfold tCall tDf
    simp only [List.append_nil]
  rw [e] at z
  exact z
theorem pe_dfG {j : Nat} (D : DfG X.prog X.w X.K X.mg X.base k x ps sp) (hG : X.A.guards = some []) (hr : Room j X.A) (ha : PA X (e :: es) t) (hj : k ≤ j := by decide) (hg : Gl X x := by rfl) (hdb : (x == ("__debug__" : Str)) = false := by decide)
    (he : starEach (e :: es) X.env = (false, eval e X.env) :: starEach es X.env := by rfl) (hpl : (backTo pos (starEach es X.env)).any (·.1) = false := by rfl) : PE X (.Call (.Name x p) (e :: es) [] pos) (tDf sp t) := by
  obtain ⟨f, fd, h1, h2, h3, h4⟩ := D.ex
  have z := pe_callG (pos := pos) (p := p) h4 hG (hr.mono hj) hg h1 h2 h3 ha hdb he hpl
  have e : tCall sp [] E0 t = tDf sp t := by
    funext σ H Q
    unfold tCall tDf
    simp only [List.append_nil]
  rw [e] at z
  exact z
end
section
variable {K : PySem.W.Frag} {H : Hp} {v : V}
theorem Th.int_v {i : Int} (h : Th K H v (.int i)) : v = .int i := by
  cases h with
  | lf h => cases h with
    | dat h => cases h; rfl
theorem Th.str_v {z : Str} (h : Th K H v (.str z)) : v = .str z := by
  cases h with
  | lf h => cases h with
    | dat h => cases h; rfl
end
end Ld
namespace Ld
open PySem L2 PyProof.Rows
/-! ### over the signs of a text -/
theorem lc_str {x : Str} {g : TG} {tt : TT} {te : TE} {vs : List Nat} {σ : L2.St} {H1 : Hp} {D : Addr} {Qd : Hp → Prop} (Pv : Nat → Hp → Prop) (h0 : Pv 0 (upd H1 D (.lst [])))
    (hs : ∀ i c H, x.cps[i]? = some c → Pv i H → g (.str ⟨#[c]⟩) (wipe σ vs) H fun σ2 H2 => wipe σ2 vs = wipe σ vs ∧ tt σ2 H2 fun b H3 =>
      if b = true then te σ2 H3 fun y H4 => ∃ acc, H4 D = some (.lst acc) ∧ acc.length < sizeLine ∧ Pv (i + 1) (upd H4 D (.lst (acc ++ [y]))) else Pv (i + 1) H3) (hd : ∀ H, Pv x.cps.size H → Qd H) :
    ∃ W : Nat → Nat → Hp → Prop, (∃ m, W 0 m (upd H1 D (.lst []))) ∧ ∀ i m H, W i m H →
      ((L2.Its x).stop i H ∧ Qd H) ∨ ((L2.Its x).go i H ∧ ∃ Nx : Hp → Prop, (∀ H', Nx H' → ∃ m', m' < m ∧ W (i + 1) m' H') ∧ ∀ v H', (L2.Its x).yld i H v H' → g v (wipe σ vs) H' fun σ2 H2 => wipe σ2 vs = wipe σ vs ∧ tt σ2 H2 fun b H3 =>
        if b = true then te σ2 H3 fun y H4 => ∃ acc, H4 D = some (.lst acc) ∧ acc.length < sizeLine ∧ Nx (upd H4 D (.lst (acc ++ [y]))) else Nx H3) := by
  refine ⟨fun i m H => m + i = x.cps.size ∧ Pv i H, ⟨x.cps.size, rfl, h0⟩, fun i m H ⟨e, p⟩ => ?_⟩
  by_cases hlt : i < x.cps.size
  · refine Or.inr ⟨hlt, Pv (i + 1), fun H' p' => ⟨m - 1, by omega, by omega, p'⟩, fun v H' y => ?_⟩
    obtain ⟨rfl, c, hc, rfl⟩ := y
    exact hs i c H' hc p
  · have e2 : i = x.cps.size := by omega
    subst e2
    exact Or.inl ⟨Nat.le_refl _, hd H p⟩
theorem for_str {x : Str} {g : TG} {tb : TS} {D : Ends} {σ : L2.St} {H : Hp} (Pv : Nat → L2.St → Hp → Prop) (h0 : Pv 0 σ H)
    (hs : ∀ i c σ H, x.cps[i]? = some c → Pv i σ H → g (.str ⟨#[c]⟩) σ H fun σ2 H2 => tb { D with nx := Pv (i + 1), ct := Pv (i + 1), bk := D.nx } σ2 H2) (hd : ∀ σ H, Pv x.cps.size σ H → D.nx σ H) :
    ∃ W : Nat → Nat → L2.St → Hp → Prop, (∃ m, W 0 m σ H) ∧ ∀ i m σ H, W i m σ H → ((L2.Its x).stop i H ∧ D.nx σ H) ∨ ((L2.Its x).go i H ∧ ∃ N : L2.St → Hp → Prop, (∀ σ' H', N σ' H' → ∃ m', m' < m ∧ W (i + 1) m' σ' H') ∧
      ∀ v H', (L2.Its x).yld i H v H' → g v σ H' fun σ2 H2 => tb { D with nx := N, ct := N, bk := D.nx } σ2 H2) := by
  refine ⟨fun i m σ H => m + i = x.cps.size ∧ Pv i σ H, ⟨x.cps.size, rfl, h0⟩, fun i m σ H ⟨e, p⟩ => ?_⟩
  by_cases hlt : i < x.cps.size
  · refine Or.inr ⟨hlt, Pv (i + 1), fun σ' H' p' => ⟨m - 1, by omega, by omega, p'⟩, fun v H' y => ?_⟩
    obtain ⟨rfl, c, hc, rfl⟩ := y
    exact hs i c σ H' hc p
  · have e2 : i = x.cps.size := by omega
    subst e2
    exact Or.inl ⟨Nat.le_refl _, hd σ H p⟩
/-! ### a list compared with the empty one -/
theorem eqv_nil_tuple (ds : List PyData) : PyData.eqv (.list ds) (.list []) = ds.isEmpty := by
  cases ds <;> rfl
end Ld
namespace Ld
open PySem L2 PyProof.Rows
/-- a list against an empty one, whatever is in it -/
def rEq0 : R2 := fun x y H Q => ∃ a b xs, x = .ref a ∧ y = .ref b ∧ H a = some (.lst xs) ∧ H b = some (.lst []) ∧ Q (.bl xs.isEmpty) H
theorem op_eq0 {X : Cx} (hu : X.A.units + 64 < cLine) : OpR X (compareOp .Eq) rEq0 := by
  intro pins s σ H x y v u Q I rx ry h
  obtain ⟨a, b, xs, rfl, rfl, ha, hb, q⟩ := h
  cases xs with
  | nil => exact op_eqD hu pins s σ H _ _ v u Q I rx ry ⟨.list [], .list [], .lst (.of ha) .nil, .lst (.of hb) .nil, by decide, by decide, q⟩
  | cons y ys =>
    cases rx
    cases ry
    obtain ⟨_, its, n, r, e1⟩ := (show ObjOk X.prog X.w H s.heap a (.lst (y :: ys)) from I.hok a _ ha)
    obtain ⟨_, its2, n2, r2, e2⟩ := (show ObjOk X.prog X.w H s.heap b (.lst []) from I.hok b _ hb)
    cases r2
    refine SeqAt.eq_list_lengthsAt (items := its.toArray) (items2 := ([] : List Value).toArray) ⟨_, e1, rfl, n, rfl⟩ ⟨_, e2, rfl, n2, rfl⟩ ?_ (by omega) ⟨.bl false, H, I, rfl, q⟩
    have := r.length
    simp at this
    simp
    cases its with
    | nil => simp at this
    | cons a b => simp
end Ld
/-! The well's two numbers, and numbers of a script squared. -/
namespace Ld
open PySem L2 PyProof.Rows
def kd : Key := Sum.inr (Str.ofString "digits")
def km : Key := Sum.inr (Str.ofString "mixed")
theorem keys_ne : ¬ (kd = km) := by decide +kernel
theorem keys_ne' : ¬ (km = kd) := fun e => keys_ne e.symm
theorem wellKv_eq (d m : Int) : wellKv d m = [(kd, V.int d), (km, V.int m)] := rfl
theorem well_dig (d m : Int) : valV (wellKv d m) kd = some (.int d) := by
  rw [wellKv_eq]
  exact valV_pos rfl
theorem well_mix (d m : Int) : valV (wellKv d m) km = some (.int m) := by
  rw [wellKv_eq]
  rw [valV_neg keys_ne]
  exact valV_pos rfl
theorem put_dig (d m x : Int) : putK (wellKv d m) kd (.int x) = wellKv x m := by
  unfold putK
  rw [valV_any, well_dig]
  show (if true = true then _ else _) = _
  rw [if_pos rfl]
  rw [wellKv_eq, wellKv_eq]
  show [if kd = kd then (kd, V.int x) else _, if km = kd then (km, V.int x) else (km, V.int m)] = _
  rw [if_pos rfl, if_neg keys_ne']
theorem put_mix (d m x : Int) : putK (wellKv d m) km (.int x) = wellKv d x := by
  unfold putK
  rw [valV_any, well_mix]
  show (if true = true then _ else _) = _
  rw [if_pos rfl]
  rw [wellKv_eq, wellKv_eq]
  show [if kd = km then (kd, V.int x) else (kd, V.int d), if km = km then (km, V.int x) else _] = _
  rw [if_neg keys_ne, if_pos rfl]
theorem merge_well (d m : Int) : mergeK [] [(kd, V.int d), (km, V.int m)] = wellKv d m := by
  show putK (putK [] kd (V.int d)) km (V.int m) = _
  rw [putK_new (kvs := []) _ rfl, List.nil_append, putK_new _ (by rw [valV_neg keys_ne]; rfl)]
  rfl
theorem sq_wide {m e : Int} {n : Nat} (h : e.natAbs < 2 ^ n) (hm : m.natAbs < 2 ^ 60) (hn : 60 ≤ n) : (m + e * e + 59).natAbs < 2 ^ (2 * n + 2) := by
  have h1 : (e * e).natAbs < 2 ^ (2 * n) := by
    rw [Int.natAbs_mul, Nat.two_mul, Nat.pow_add]
    exact Nat.mul_lt_mul'' h h
  have h2 : 2 ^ 60 ≤ 2 ^ (2 * n) := Nat.pow_le_pow_right (by decide) (by omega)
  have h3 : (2 : Nat) ^ (2 * n + 2) = 4 * 2 ^ (2 * n) := by
    rw [Nat.pow_add]
    omega
  rw [h3]
  generalize (2 : Nat) ^ (2 * n) = z at h1 h2
  generalize e * e = s at h1
  have h4 : (2 : Nat) ^ 60 = 1152921504606846976 := by decide
  omega
theorem mul_small {m c : Int} (h0 : 0 ≤ m) (h1 : m < 2 ^ 40) (c0 : 0 ≤ c) (c1 : c < 2 ^ 17) : (m * c).natAbs < 2 ^ 60 := by
  rw [Int.natAbs_mul]
  have a : m.natAbs < 2 ^ 40 := by omega
  have b : c.natAbs < 2 ^ 17 := by omega
  have := Nat.mul_lt_mul'' a b
  exact Nat.lt_of_lt_of_le this (by decide)
theorem bits_small {m : Int} (h0 : 0 ≤ m) (h1 : m < 2 ^ 40) : Builtin.Int.intBits m ≤ 40 := bits_of (by omega)
theorem list_get {ns : List Int} {i : Nat} {x : V} (h : (ns.map V.int)[i]? = some x) : ∃ z, ns[i]? = some z ∧ x = .int z := by
  rw [List.getElem?_map] at h
  cases e : ns[i]? with
  | none => rw [e] at h; cases h
  | some z =>
    rw [e] at h
    exact ⟨z, rfl, (Option.some.inj h).symm⟩
end Ld
/-! Small things: what is drawn is short. -/
namespace Ld
open PySem L2 PyProof.Rows
def ascB (z : Str) : Bool := decide (z.length ≤ 100) && z.cps.toList.all (fun c => decide (c < 128))
theorem asc_of {z : Str} (h : ascB z = true) : Asc z := by
  simp only [ascB, Bool.and_eq_true, decide_eq_true_eq, List.all_eq_true] at h
  exact h
/-- short enough to stand in something -/
structure Part (d : PyData) : Prop where
  fit : FitS d
  sh : d.showable = true
  dp : d.depth ≤ 20
  len : d.shown.length ≤ 2000
def partB (d : PyData) : Bool := (match d with | .str z => ascB z | _ => true) && d.showable && decide (d.depth ≤ 20) && decide (d.shown.length ≤ 2000)
theorem part_of {d : PyData} (h : partB d = true) : Part d := by
  simp only [partB, Bool.and_eq_true, decide_eq_true_eq] at h
  obtain ⟨⟨⟨h1, h2⟩, h3⟩, h4⟩ := h
  refine ⟨fun z e => ?_, h2, h3, h4⟩
  subst e
  exact asc_of h1
theorem part_str {z : Str} (h : Asc z) : Part (.str z) := by
  refine ⟨fun y e => by cases e; exact h, rfl, by show 0 ≤ 20; decide, ?_⟩
  have := PySem.StrLaws.reprText_len z fun c hc => Nat.lt_of_lt_of_le (h.2 c hc) (by decide)
  show (reprText z).length ≤ 2000
  have := h.1
  omega
theorem Part.small {d : PyData} (h : Part d) : Small d := ⟨h.sh, Nat.le_trans h.dp (by decide), Nat.le_trans h.len (by decide)⟩
theorem shows_all : ∀ {ds : List PyData}, (∀ d ∈ ds, Part d) → PyData.showableAll ds = true
  | [], _ => rfl
  | d :: ds, h => by
    simp only [PyData.showableAll, (h d List.mem_cons_self).sh, shows_all fun x hx => h x (List.mem_cons_of_mem _ hx), Bool.and_self]
theorem depth_all : ∀ {ds : List PyData}, (∀ d ∈ ds, Part d) → PyData.depthAll ds ≤ 20
  | [], _ => by show 0 ≤ 20; decide
  | d :: ds, h => by
    have h1 := (h d List.mem_cons_self).dp
    have h2 := depth_all fun x hx => h x (List.mem_cons_of_mem _ hx)
    simp only [PyData.depthAll]
    omega
theorem len_all : ∀ {ds : List PyData}, (∀ d ∈ ds, Part d) → ((PyData.shownAll ds).map (·.length)).sum ≤ 2000 * ds.length ∧ (PyData.shownAll ds).length = ds.length
  | [], _ => ⟨Nat.le_refl _, rfl⟩
  | d :: ds, h => by
    have h1 := (h d List.mem_cons_self).len
    obtain ⟨h2, h3⟩ := len_all fun x hx => h x (List.mem_cons_of_mem _ hx)
    simp only [PyData.shownAll, List.map_cons, List.sum_cons, List.length_cons]
    omega
theorem small_list {ds : List PyData} (h : ∀ d ∈ ds, Part d) (hn : ds.length ≤ 1000) : Small (.list ds) := by
  obtain ⟨h2, h3⟩ := len_all h
  refine ⟨by simpa only [PyData.showable] using shows_all h, ?_, ?_⟩
  · have := depth_all h
    simp only [PyData.depth]
    omega
  · have := listText_len_le (PyData.shownAll ds)
    simp only [PyData.shown]
    rw [sizeLine_eq]
    omega
theorem small_tuple {ds : List PyData} (h : ∀ d ∈ ds, Part d) (hn : ds.length ≤ 1000) : Small (.tuple ds) := by
  obtain ⟨h2, h3⟩ := len_all h
  refine ⟨by simpa only [PyData.showable] using shows_all h, ?_, ?_⟩
  · have := depth_all h
    simp only [PyData.depth]
    omega
  · have := tupleText_len_le (PyData.shownAll ds)
    simp only [PyData.shown]
    rw [sizeLine_eq]
    omega
theorem fits_list {ds : List PyData} : Fits (.list ds) := ⟨(fun z e => by cases e), (fun ds e => by cases e)⟩
theorem fits_tuple {ds : List PyData} (h : ∀ d ∈ ds, Part d) (hn : ds.length ≤ 1000) : Fits (.tuple ds) := ⟨(fun z e => by cases e), (fun es e => by cases e; exact ⟨Nat.le_trans hn (by decide), fun d hd => (h d hd).fit⟩)⟩
theorem Part.fits {d : PyData} (h : Part d) (n : ∀ ds, d ≠ .tuple ds) : Fits d := ⟨h.fit, fun ds e => absurd e (n ds)⟩
theorem parts_strs {ws : List Str} (h : ∀ w ∈ ws, Asc w) : ∀ d ∈ ws.map PyData.str, Part d := fun d hd => by
  obtain ⟨w, hw, rfl⟩ := List.mem_map.mp hd
  exact part_str (h w hw)
/-- a drawn thing: it stands, it is short -/
def Good (K : PySem.W.Frag) (H : Hp) (v : V) : Prop := ∃ d, Th K H v d ∧ Fits d ∧ Small d
theorem Good.sb {K : PySem.W.Frag} {H H' : Hp} {wa : Addr} {v : V} (W : Well H wa) (s : Sb wa H H') (h : Good K H v) : Good K H' v := by
  obtain ⟨d, h1, h2⟩ := h
  exact ⟨d, h1.sb W s, h2⟩
theorem Good.same {K : PySem.W.Frag} {H H' : Hp} {v : V} (s : Same H H') (h : Good K H v) : Good K H' v := by
  obtain ⟨d, h1, h2⟩ := h
  exact ⟨d, h1.same s, h2⟩
/-- any of the menu -/
def Any (K : PySem.W.Frag) (H : Hp) (v : V) : Prop := ∃ d, Lf K H v d ∧ Part d ∧ Fits d
theorem Any.sb {K : PySem.W.Frag} {H H' : Hp} {wa : Addr} {v : V} (W : Well H wa) (s : Sb wa H H') (h : Any K H v) : Any K H' v := by
  obtain ⟨d, h1, h2⟩ := h
  exact ⟨d, h1.sb W s, h2⟩
theorem Any.same {K : PySem.W.Frag} {H H' : Hp} {v : V} (s : Same H H') (h : Any K H v) : Any K H' v := by
  obtain ⟨d, h1, h2⟩ := h
  exact ⟨d, h1.same s, h2⟩
theorem Any.good {K : PySem.W.Frag} {H : Hp} {v : V} (h : Any K H v) : Good K H v := by
  obtain ⟨d, h1, h2, h3⟩ := h
  exact ⟨d, .lf h1, h3, h2.small⟩
theorem any_int {K : PySem.W.Frag} {H : Hp} (i : Int) (h : partB (.int i) = true) : Any K H (.int i) := ⟨_, .dat (.int i), part_of h, (part_of h).fits (fun _ e => by cases e)⟩
theorem any_str {K : PySem.W.Frag} {H : Hp} (z : Str) (h : ascB z = true) : Any K H (.str z) := ⟨_, .dat (.str z), part_str (asc_of h), (part_str (asc_of h)).fits (fun _ e => by cases e)⟩
theorem any_non {K : PySem.W.Frag} {H : Hp} : Any K H .non := ⟨_, .dat .non, part_of (by decide +kernel), (part_of (by decide +kernel)).fits (fun _ e => by cases e)⟩
theorem any_bl {K : PySem.W.Frag} {H : Hp} (b : Bool) : Any K H (.bl b) := ⟨_, .dat (.bl b), part_of (by cases b <;> decide +kernel), (part_of (d := .bool b) (by cases b <;> decide +kernel)).fits (fun _ e => by cases e)⟩
theorem any_tup {K : PySem.W.Frag} {H : Hp} {a : Addr} {xs : List V} {ds : List PyData} (h : SqT K H a xs) (hd : DpAll K H xs ds) (p : partB (.tuple ds) = true) (q : ds.all partB = true) (hn : ds.length ≤ 1000) : Any K H (.ref a) :=
  ⟨_, .dat (.tup h hd), part_of p, fits_tuple (fun d h => part_of (List.all_eq_true.mp q d h)) hn⟩
theorem any_lst {K : PySem.W.Frag} {H : Hp} {a : Addr} {xs : List V} {ds : List PyData} (h : SqL K H a xs) (hd : DpAll K H xs ds) (p : partB (.list ds) = true) : Any K H (.ref a) := ⟨_, .dat (.lst h hd), part_of p, fits_list⟩
theorem any_dct0 {K : PySem.W.Frag} {H : Hp} {a : Addr} (h : H a = some (.dK [])) : Any K H (.ref a) := ⟨_, .dct0 h, part_of (by decide +kernel), (part_of (d := .dict []) (by decide +kernel)).fits (fun _ e => by cases e)⟩
theorem any_dct1 {K : PySem.W.Frag} {H : Hp} {a : Addr} {x y : Str} (h : H a = some (.dK [(Sum.inr x, .str y)])) (p : partB (.dict [(.str x, .str y)]) = true) : Any K H (.ref a) := ⟨_, .dct1 h, part_of p, (part_of p).fits (fun _ e => by cases e)⟩
end Ld
/-! Own exceptions as values: made by place or by name, their fields, isinstance. -/
namespace Ld
namespace EX
open PySem PySem.HandSPX PySem.Builtin PySem.Builtin.ObjectAttr
section
variable {M : Model} {prog : Program} {w : World} {A : Around} {E : Value → Shared → Prop} {R : Result → Shared → Prop} {h : Heap} {g : Array GenState} {d : Drawn} {t : Nat} {os : OsState}
variable {nm q : Str} {C N : Addr} {bs bm bmB : List Value} {hdct : Bool} {sn : List Str} {sub : List Value} {ab : Bool} {col : Option Bool} {dd : Option Addr} {k0 k1 k2 k3 k5 : Option Value} {B newId initId : String}
theorem check_newK (F : ExcBaseFacts B newId initId bmB) (hT : ∀ X : String, bm.contains (.type X) = bmB.contains (.type X)) {rest : List Value} {ks : List (Str × Value)} {Q : Unit → Shared → Prop}
    (hC : h.get? C = some (excClassObj nm q C N bs bm hdct sn sub ab col dd k0 k1 k2 k3 k5 newId)) (hq : Q () ⟨h, g, d, t, os⟩) : wpAny M A (checkBuiltinCall newId ⟨.ref C :: rest, ks⟩) Q E ⟨h, g, d, t, os⟩ := by
  have hcont : (Value.ref C :: bm).contains (.type B) = true := by rw [List.contains_cons, hT, F.hasB, Bool.or_true]
  have hstar := F.noStar
  simp only [checkBuiltinCall, F.newKind, F.newSplit, F.newRow]
  repeat (first | refine wpAny_loadPart_at hC ?_ | (refine wpAny_isSubtype_exc hC ?_; rw [hcont]) | refine wpAny_staticBase_exc hC ?_ | refine wpAny_madeBy_exc hC ?_ | simp only [bne_self_eq_false, Bool.false_eq_true, if_false] | wp_step)
  exact hq
theorem new_ownK (F : ExcBaseFacts B newId initId bmB) (hT : ∀ X : String, bm.contains (.type X) = bmB.contains (.type X)) {rest : List Value} {ks : List (Str × Value)}
    (hC : h.get? C = some (excClassObj nm q C N bs bm hdct sn sub ab col dd k0 k1 k2 k3 k5 newId))
    (hq : R (.ok (.ret (.ref (h.objs.size + 1)))) ⟨(h.push { cls := .type "tuple", data := .seq rest.toArray }).push
      { cls := .ref C, data := .fields #[.ref h.objs.size, .none, .none, .none, .bool false, .none] }, g, d, t, os⟩) (hrest : rest.length ≤ sizeLine) :
    codeAny (model prog w) A (.builtin newId ⟨.ref C :: rest, ks⟩) R ⟨h, g, d, t, os⟩ := by
  have hends := F.ends
  have hcB : (Value.ref C :: bm).contains (.type B) = true := by rw [List.contains_cons, hT, F.hasB, Bool.or_true]
  have hcA : (Value.ref C :: bm).contains (.type "AttributeError") = false := by rw [List.contains_cons, hT, F.noAttr]; rfl
  have hcN : (Value.ref C :: bm).contains (.type "NameError") = false := by rw [List.contains_cons, hT, F.noName]; rfl
  refine codeAny_builtinAt F.entry ?_
  unfold Builtin.«BaseException.__new__»
  refine wpAt_bind ?_
  show wpAt _ _ _ (stack >>= _) _ _ _
  refine wpAt_bind (wpAt_stack fun p below => wpAt_of_wpAny ?_)
  wp_walk
  refine wpAt_of_wpAny ?_
  rw [F.owner]
  repeat (first | with_reducible refine wpAny_madeHere_exc F.canon hC ?_ | with_reducible refine wpAny_loadPart_at hC ?_ | (with_reducible refine wpAny_isSubtype_exc hC ?_; first | rw [hcB] | rw [hcA] | rw [hcN]) | wp_step)
  show R _ _
  rw [Heap.size_push]
  exact hq
theorem type_callK (F : ExcBaseFacts B newId initId bmB) (hT : ∀ X : String, bm.contains (.type X) = bmB.contains (.type X)) {rest : List Value} {ks : List (Str × Value)} {fI : Addr} {Q : Fin → Shared → Prop}
    (hC : h.get? C = some (excClassObj nm q C N bs bm hdct sn sub ab col dd k0 k1 k2 k3 k5 newId))
    (hi : W.Looks (model prog w) h (typeLookup (.ref C) "__init__") (some (.ref fI))) (hb : ∀ self, W.Looks (model prog w) h (bindSpecial (.ref fI) self) (.ref fI, [self])) (hrest : rest.length ≤ sizeLine)
    (hq : codeAny (model prog w) A (.call (.ref fI) ⟨.ref (h.objs.size + 1) :: rest, ks⟩)
      (fun r s' => match r with | .ok (.ret v) => v = .none ∧ Q (.done (.ret (.ref (h.objs.size + 1)))) s' | .ok _ => False | .error e => E e s')
      ⟨(h.push (W.kdv_tup rest)).push (excO C h.objs.size), g, d, t, os⟩) :
    wpAny (model prog w) A (Builtin.«type.__call__» ⟨.ref C :: rest, ks⟩) Q E ⟨h, g, d, t, os⟩ := by
  repeat (first | with_reducible refine wpAny_loadPart_at hC ?_ | with_reducible refine wpAny_madeBy_exc hC ?_ | wp_step)
  refine codeAny_call_builtin_code (Code.quiet_builtin _ F.quiet) (check_newK F hT hC ?_)
  refine new_ownK F hT hC ?_ hrest
  show wpAny _ _ _ _ _ _
  have k : ∀ b o, h.get? b = some o → ((h.push (W.kdv_tup rest)).push (excO C h.objs.size)).get? b = some o := fun b o e => Heap.get?_push_of_some _ (Heap.get?_push_of_some _ e)
  have hC₁ := k _ _ hC
  have hget : ((h.push (W.kdv_tup rest)).push (excO C h.objs.size)).get? (h.objs.size + 1) = some (excO C h.objs.size) := by heap_get
  have hcC : (Value.ref C :: bm).contains (.ref C) = true := by simp
  have i1 := hi.keeps k
  have b1 := (hb (.ref (h.objs.size + 1))).keeps k
  unfold isInstance
  repeat (first | with_reducible refine wpAny_loadPart_at hget ?_ | (with_reducible refine wpAny_isSubtype_exc hC₁ ?_; rw [hcC]) | wp_step)
  show wpAny _ _ (typeLookup (.ref C) _) _ _ _
  refine i1.at ?_
  refine wpAny_holding (wpAny_bind (b1.at ?_))
  refine wpAny_bind (wpAny_call (codeAny_mono hq fun r s' z => ?_))
  rcases r with e | (v | _ | _ | _) <;> first | exact z | exact z.elim | skip
  obtain ⟨rfl, z⟩ := z
  first
    | exact wpAny_pure (wpAny_pure z)
    | (wp_walk; exact z)
theorem call_ownK (F : ExcBaseFacts B newId initId bmB) (hT : ∀ X : String, bm.contains (.type X) = bmB.contains (.type X)) {rest : List Value} {ks : List (Str × Value)} {fI : Addr}
    (hC : h.get? C = some (excClassObj nm q C N bs bm hdct sn sub ab col dd k0 k1 k2 k3 k5 newId))
    (hi : W.Looks (model prog w) h (typeLookup (.ref C) "__init__") (some (.ref fI))) (hb : ∀ self, W.Looks (model prog w) h (bindSpecial (.ref fI) self) (.ref fI, [self])) (hrest : rest.length ≤ sizeLine)
    (hq : codeAny (model prog w) (A.under (.builtin "type.__call__" ⟨.ref C :: rest, ks⟩)) (.call (.ref fI) ⟨.ref (h.objs.size + 1) :: rest, ks⟩) (W.InitBack (h.objs.size + 1) R)
      ⟨(h.push (W.kdv_tup rest)).push (excO C h.objs.size), g, d, t, os⟩) :
    codeAny (model prog w) A (.call (.ref C) ⟨rest, ks⟩) R ⟨h, g, d, t, os⟩ := by
  have f1 := tc_lookup
  have f2 := tc_bind (.ref C)
  have hTy : (⟨h, g, d, t, os⟩ : Shared).TypeIs (.ref C) "type" := ⟨_, hC, rfl⟩
  refine codeAny_of_tree ?_
  show wpAny _ _ (callAny (.ref C) _) _ _ _
  repeat (any_goals (first | assumption | with_reducible refine wpAny_loadPart_at hC ?_ | wp_step))
  refine ⟨rfl, ?_⟩
  refine codeAny_call_builtin_at (Code.quiet_builtin _ (by decide +kernel)) entry_typeCall (wpAny_check_type_call_sub hC (type_callK F hT hC hi hb hrest ?_))
  refine codeAny_mono hq fun r s' z => ?_
  rcases r with e | (v | _ | _ | _) <;> exact z
end
end EX
end Ld
/-! Own exceptions as values: the rules. -/
namespace Ld
open PySem PySem.Spec PyProof.Rows L2
/-- a new exception, its own __init__ keeping sp -/
def tMkX (C : Addr) (n m : Nat) (sp : Sp) (gV : List V → List V → List V) (ta tk : TA) : TE := fun σ H Q => ta σ H fun vs H1 => tk σ H1 fun zs H2 => vs.length = n ∧ zs.length = m ∧ ∀ a, H2 a = none →
  sp (gV (.ref a :: vs) zs) (upd H2 a (exo a C none)) (fun v H3 => v = .non ∧ Q (.ref a) H3) E0
/-- what the class must say to make -/
structure XMk (K : PySem.W.Frag) (C fI : Addr) : Prop where
  T : OexC K C
  iC : PySem.W.findIn K (.ref C) "__init__" = some (some (.ref fI))
  tI : PySem.W.typeIn K (.ref fI) = some (.type "function")
section
variable {X : Cx} {k n : Nat} {C fI : Addr} {fd : FuncData} {ps ks : List Str} {sp : Sp} {x : Str} {p pos : Pos} {e : Expr} {es : List Expr} {kws : List Keyword} {ta tk : TA} {g : List Value → List Value → List Value} {gV : List V → List V → List V}
theorem run_mkx {pins : List (Addr × Obj)} {σ : L2.St} {H : Hp} {s : Shared} {Q : VK} {us ws : List Value} {vs zs : List V} (M : XMk X.K C fI) (F : FnOk X.prog X.w X.K X.mg X.base CX0 k fI fd ps sp) (hr : Room (k + 1) X.A) (hb : KBn X.K fd ps (n + 1) ks g gV)
    (I : Inv X pins σ H s) (r : Vals vs us) (rz : Vals zs ws) (l1 : vs.length = n) (l2 : zs.length = ks.length) (hn : n ≤ 1000)
    (h : ∀ a, H a = none → sp (gV (.ref a :: vs) zs) (upd H a (exo a C none)) (fun v H2 => v = .non ∧ Q (.ref a) H2) E0) :
    wpAny (model X.prog X.w) X.A (call (.ref C) us (ks.zip ws)) (EP X pins σ Q) X.xe s := by
  obtain ⟨nm, q, N, bs, bm, sn, sub, ab, col, dd, k0, k1, k2, k3, k5, hC, hbm⟩ := M.T.cls
  obtain ⟨hp, gs, dr, tk, os⟩ := s
  have hsz : hp.objs.size ≤ hp.objs.size + 1 := Nat.le_succ _
  have hn0 : H (hp.objs.size + 1) = none := I.hok.fresh hsz
  have hq := h (hp.objs.size + 1) hn0
  have kk : ∀ b o, hp.get? b = some o → ((hp.push (PySem.W.kdv_tup us)).push (PySem.HandSPX.excO C hp.objs.size)).get? b = some o := fun b o e => Heap.get?_push_of_some _ (Heap.get?_push_of_some _ e)
  have hget : ((hp.push (PySem.W.kdv_tup us)).push (PySem.HandSPX.excO C hp.objs.size)).get? (hp.objs.size + 1) = some (PySem.HandSPX.excO C hp.objs.size) := by heap_get
  have I2 : Inv X pins σ (upd H (hp.objs.size + 1) (exo (hp.objs.size + 1) C none)) ⟨(hp.push (PySem.W.kdv_tup us)).push (PySem.HandSPX.excO C hp.objs.size), gs, dr, tk, os⟩ :=
    I.laid (t' := tk) (a := hp.objs.size + 1) (o := exo (hp.objs.size + 1) C none) (h' := (hp.push (PySem.W.kdv_tup us)).push (PySem.HandSPX.excO C hp.objs.size)) kk hsz (exo_ok hget)
  have r1 : Vals (V.ref (hp.objs.size + 1) :: vs) (Value.ref (hp.objs.size + 1) :: us) := .cons rfl r
  have r2 := hb.rel r1 rz
  have e1 : (Value.ref (hp.objs.size + 1) :: us).length = n + 1 := r1.length.symm.trans (congrArg Nat.succ l1)
  have e2 : ws.length = ks.length := rz.length.symm.trans l2
  have hus : us.length ≤ sizeLine := by
    rw [← Paired.length r, l1, sizeLine_eq]
    omega
  refine wpAny_call (EX.call_ownK PySem.F.excBase_ValueError (fun Y => PySem.HandSPX.refsVE_contains Y bm hbm) (I.kIn _ _ hC) (PySem.W.looks_findIn I.kIn M.iC) (fun self => PySem.W.bind_fn I.kIn self M.tI) hus
    (codeAny_mono (F.run _ X.stack _ _ ⟨Value.ref (hp.objs.size + 1) :: us, ks.zip ws⟩ (g (Value.ref (hp.objs.size + 1) :: us) ws) _ _ E0 (hr.make C us (ks.zip ws)) (I2.env0.make C us (ks.zip ws)) (hb.to _ (Value.ref (hp.objs.size + 1) :: us) ws I2.kIn e1 e2) r2 hq) fun r s' hq' => ?_))
  cases r with
  | error er => exact pass0 pins σ _ _ er s' I2 hq'
  | ok fl =>
    cases fl with
    | ret u =>
      obtain ⟨v, H', I3, rv, ev, q3⟩ := I2.after hq'
      subst ev
      exact ⟨rv, ⟨V.ref (hp.objs.size + 1), H', I3, rfl, q3⟩⟩
    | next => exact False.elim hq'
    | brk => exact False.elim hq'
    | cont => exact False.elim hq'
/-- C(e) -/
theorem kbn0 {K : PySem.W.Frag} (hb : Binds K fd ps []) : KBn K fd ps ps.length [] (fun us _ => us) (fun vs _ => vs) where
  to := fun s us ws X l1 l2 => by
    have z := hb s us X (by rw [List.append_nil]; exact l1)
    rw [List.append_nil] at z
    exact z
  rel := fun r _ => r
theorem pe_mkx (M : XMk X.K C fI) (F : FnOk X.prog X.w X.K X.mg X.base CX0 k fI fd ps sp) (hr : Room (k + 1) X.A) (hb : KBn X.K fd ps (n + 1) [] (fun us _ => us) (fun vs _ => vs)) (hg : Gl X x) (hm : X.mg x = some (.ref C)) (ha : PA X (e :: es) ta) (hn : n ≤ 1000 := by decide)
    (hdb : (x == ("__debug__" : Str)) = false := by decide) (he : starEach (e :: es) X.env = (false, eval e X.env) :: starEach es X.env := by rfl) (hpl : (backTo pos (starEach es X.env)).any (·.1) = false := by rfl) :
    PE X (.Call (.Name x p) (e :: es) [] pos) (tMkX C n 0 sp (fun vs _ => vs) ta (fun σ H R => R [] H)) := by
  refine ⟨fun pins s σ H Q I h => ?_⟩
  refine wpAny_Call_Name_kw (ld_glob I hg hm ?_ hdb)
  refine PySem.W.callWith_K (h₀ := X.base) I.ok.mod.kin M.T.kC (thn (ha.run pos pins s σ H _ I h) fun us s1 ⟨vs, H1, I1, r1, l1, l2, q1⟩ => ⟨I1.kIn, ?_⟩) he hpl
  exact run_mkx (ws := []) (zs := []) (ks := []) M F hr hb I1 r1 .nil l1 rfl hn q1
/-- C(k = v) -/
theorem pe_mkxK (M : XMk X.K C fI) (F : FnOk X.prog X.w X.K X.mg X.base CX0 k fI fd ps sp) (hr : Room (k + 1) X.A) (hb : KBn X.K fd ps 1 ks g gV) (hg : Gl X x) (hm : X.mg x = some (.ref C)) (hkw : PK X kws tk)
    (hall : (backToKw pos (keywordEach kws X.env)).all (·.1.isSome) = true := by rfl) (hks : (backToKw pos (keywordEach kws X.env)).filterMap (·.1) = ks := by rfl) (hdb : (x == ("__debug__" : Str)) = false := by decide)
    (hpl : ((backTo pos (starEach [] X.env)).any (·.1) || (backToKw pos (keywordEach kws X.env)).any (·.1.isNone)) = false := by rfl) :
    PE X (.Call (.Name x p) [] kws pos) (tMkX C 0 ks.length sp gV tNil tk) := by
  refine ⟨fun pins s σ H Q I h => ?_⟩
  refine wpAny_Call_Name_kw (ld_glob I hg hm ?_ hdb)
  refine PySem.W.callWith_KW0 (h₀ := X.base) I.ok.mod.kin M.T.kC hall ?_ hpl
  refine thn (hkw.run pos pins s σ H _ I h) fun ws s2 ⟨zs, H2, I2, rz, l1, l2, q2⟩ => ⟨I2.kIn, ?_⟩
  rw [hks]
  exact run_mkx (us := []) (vs := []) M F hr hb I2 .nil rz rfl l2 (Nat.zero_le _) q2
/-- f(k = v, ..) of a def -/
def tDfK (m : Nat) (sp : Sp) (gV : List V → List V → List V) (tk : TA) : TE := fun σ H Q => tk σ H fun zs H2 => zs.length = m ∧ sp (gV [] zs) H2 Q E0
theorem pe_dfK {f : Addr} (F : FnOk X.prog X.w X.K X.mg X.base CX0 k f fd ps sp) (hr : Room k X.A) (hg : Gl X x) (hm : X.mg x = some (.ref f)) (hk : PySem.W.keepIn X.K (.ref f) = true) (hb : KBn X.K fd ps 0 ks g gV) (hkw : PK X kws tk)
    (hall : (backToKw pos (keywordEach kws X.env)).all (·.1.isSome) = true := by rfl) (hks : (backToKw pos (keywordEach kws X.env)).filterMap (·.1) = ks := by rfl) (hdb : (x == ("__debug__" : Str)) = false := by decide)
    (hpl : ((backTo pos (starEach [] X.env)).any (·.1) || (backToKw pos (keywordEach kws X.env)).any (·.1.isNone)) = false := by rfl) :
    PE X (.Call (.Name x p) [] kws pos) (tDfK ks.length sp gV tk) := by
  refine ⟨fun pins s σ H Q I h => ?_⟩
  refine wpAny_Call_Name_kw (ld_glob I hg hm ?_ hdb)
  refine PySem.W.callWith_KW0 (h₀ := X.base) I.ok.mod.kin hk hall ?_ hpl
  refine thn (hkw.run pos pins s σ H _ I h) fun ws s2 ⟨zs, H2, I2, rz, l2, q2⟩ => ⟨I2.kIn, ?_⟩
  rw [hks]
  exact run_fnN (us := []) (vs := []) F hr hb pass0 I2 .nil rz rfl l2 q2
end
/-! ### an exception that stands -/
/-- at a stands an exception of C with the fields fs -/
def ExV (H : Hp) (a C d : Addr) (fs : List (Str × V)) : Prop := H a = some (exo a C (some d)) ∧ H d = some (exd d fs)
theorem ExV.same {H H' : Hp} {a C d : Addr} {fs : List (Str × V)} (h : ExV H a C d fs) (s : Same H H') : ExV H' a C d fs := ⟨s _ _ h.1, s _ _ h.2⟩
theorem ExV.inst {P : Program} {w : World} {H : Hp} {h : Heap} {a C d : Addr} {fs : List (Str × V)} (hok : HOk P w H h) (z : ExV H a C d fs) :
    ∃ (oe od : Obj) (mA : Str → Option Value), PySem.W.InstAt h a oe C (some od) ∧ h.get? d = some od ∧ (∀ n, PySem.W.lookIn n od = some (mA n)) ∧ ∀ f, RelO (fs.lookup f) (mA f) := by
  obtain ⟨t1, he⟩ := exo_at hok z.1
  obtain ⟨mA, hns, hr⟩ := exd_at hok z.2
  obtain ⟨od, ho, hl⟩ := lookIn_ns hns
  exact ⟨_, od, mA, ⟨he, rfl, rfl, ho⟩, ho, hl, hr⟩
/-- e.f -/
def tXv (K : PySem.W.Frag) (n : Str) (te : TE) : TE := fun σ H Q => te σ H fun x H1 => ∃ (a C d : Addr) (fs : List (Str × V)) (v : V), x = .ref a ∧ ExV H1 a C d fs ∧ XfC K C ∧ PySem.W.findIn K (.ref C) n = some none ∧ fs.lookup n = some v ∧ Q v H1
theorem pe_xv {X : Cx} {K : PySem.W.Frag} {e : Expr} {te : TE} {pos : Pos} {n : Str} (he : PE X e te) (hK : X.K = K := by rfl) (hb : attributeBase e n X.env (eval e X.env) = eval e X.env := by rfl) : PE X (.Attribute e n pos) (tXv K n te) := by
  subst hK
  refine ⟨fun pins s σ H Q I h => ?_⟩
  refine attr_of hb (thn (he.run pins s σ H _ I h) fun u s1 hh => ?_)
  obtain ⟨x, H1, I1, rx, a, C, d, fs, v, ex, z, T, hno, l, q⟩ := hh
  subst ex
  obtain rfl : u = Value.ref a := rx
  obtain ⟨oe, od, mA, J, ho, hl, hr⟩ := z.inst I1.hok
  obtain ⟨u, hu, ru⟩ := RelO.some_of (v := v) (o := mA n) (by rw [← l]; exact hr n)
  exact HandSPX.exc_get I1.kIn J T.ga T.gg T.exC (PySem.W.findObj_own T.hdC hno rfl (by rw [hl, hu])) (handed_of ru) ⟨v, H1, I1.tok _, ru, q⟩
end Ld
namespace Ld
namespace EX
open PySem PySem.Spec PySem.Calls PyProof.Rows PySem.W
section
variable {prog : Program} {w : World} {A : Around} {E : Value → Shared → Prop} {s : Shared} {K : Frag} {x D : Addr} {ox : Obj} {od : Option Obj}
theorem findObj_dataO {C : Addr} {name : Str} {a g : Value} (hc : (clsIn K C).isSome = true) (ha : findIn K (.ref C) name = some (some a)) (hg : specialIn K a "__get__" = some (some g)) (ht : takesIn K a = some true) : findObj K C od name = some (.bind g a) := by
  obtain ⟨cd, hc⟩ := Option.isSome_iff_exists.mp hc
  unfold findObj
  rw [hc, Option.bind_some, ha, Option.bind_some]
  simp [hg, ht]
theorem kin_classX {Q : Option Value → Shared → Prop} (hga : findIn K (.ref D) "__getattribute__" = some (some (.builtin "BaseException.__getattribute__"))) (hgt : findIn K (.ref D) "__getattr__" = some none) (hsub : subIn K (.ref D) (.type "BaseException") = some true)
    (hdct : hasDictIn K D = true) (ha : findIn K (.ref D) "__class__" = some (some (.builtin "object.__class__")))
    (hn : specialIn K (.builtin "object.__class__") "__get__" = some (some (.builtin "getset_descriptor.__get__"))) (htk : takesIn K (.builtin "object.__class__") = some true) (hm : mroIn K D (.type "object") = some true)
    (X : K.In s.heap) (I : InstAt s.heap x ox D od) (h : Q (some (.ref D)) { s with toks := s.toks + 1 }) : wpAny (model prog w) A (getAttr? (.ref x) "__class__") Q E s := by
  have hf : findObj K D od "__class__" = some (.bind (.builtin "getset_descriptor.__get__") (.builtin "object.__class__")) := findObj_dataO (by obtain ⟨cd, hc, _⟩ := any_some hdct; rw [hc]; rfl) ha hn htk
  obtain ⟨hp, g, d, t, os⟩ := s
  have L0 := I.type (M := model prog w)
  have L1 := looks_findIn (M := model prog w) X hga
  have L2 := looks_findIn (M := model prog w) X hgt
  have L3 := looks_find (M := model prog w) X I hf
  have sub : Looks (model prog w) hp (isInstance (.ref x) (.type "BaseException")) true := L0.andThen (looks_subIn X hsub)
  have hx0 : (false && onTheHeap (Value.builtin "BaseException.__getattribute__")) = false := rfl
  have hx2 : (Value.builtin "BaseException.__getattribute__" == Value.builtin "object.__getattribute__") = false := by decide +kernel
  have hx1 : (onTheHeap (Value.ref D) && Value.builtin "BaseException.__getattribute__" == Value.builtin "object.__getattribute__") = false := by rw [hx2]; rfl
  unfold getAttr? getAttrBy? getAttrBy
  refine wpAny_bind (wpAny_mkText (wpAny_bind (wpAny_attempt (wpAny_holding (wpAny_bind (L0.at (wpAny_bind (L1.at ?_))))))))
  show wpAny _ _ (if (onTheHeap (Value.ref D) && Value.builtin "BaseException.__getattribute__" == Value.builtin "object.__getattribute__") = true then _ else _) _ _ _
  rw [hx1, if_neg Bool.false_ne_true]
  unfold getAttrByItsOwn hookBefore
  refine wpAny_bind ?_
  rw [if_pos (show onTheHeap (Value.ref D) = true from rfl)]
  refine L2.at ?_
  refine wpAny_bind (wpAny_attempt (wpAny_holding ?_))
  unfold callGetattribute
  rw [hx0, if_neg Bool.false_ne_true]
  unfold boundAndCalled
  rw [PySem.F.excAttr_ValueError.ga.bind (.ref x)]
  refine wpAny_bind (wpAny_pure ?_)
  show wpAny _ _ (call (.builtin "BaseException.__getattribute__") [.ref x, .str "__class__" t]) _ _ _
  refine wpAny_call (codeAny_call_builtin PySem.F.excAttr_ValueError.ga.plain PySem.F.entry_bexc_ga ?_)
  refine @check_slot (model prog w) _ _ ⟨hp, g, d, t + 1, os⟩ "BaseException.__getattribute__" "BaseException" "__getattribute__" (.ref x) [.str "__class__" t] [] _ (by decide +kernel) (by decide +kernel) sub (PySem.F.args_bexc_ga (.ref x) (.str "__class__" t)) ?_
  unfold Builtin.«object.__getattribute__»
  refine wpAny_bind (wpAny_of_eq (a := ((Value.ref x : Value), [Value.str "__class__" t])) (by first | rfl | (simp only [slotArgs]; rfl)) ?_)
  refine wpAny_bind (wpAny_pure (wpAny_bind (L0.at (wpAny_bind (L3.at ?_)))))
  show wpAny _ _ (holding [Value.builtin "object.__class__"] (call (.builtin "getset_descriptor.__get__") [.builtin "object.__class__", .ref x, .ref D]) >>= ret) _ _ _
  refine wpAny_bind (wpAny_holding (wpAny_call (class_get (s := ⟨hp, g, d, t + 1, os⟩) (ox := ox) (od := od) X I hm ?_)))
  refine wpAny_pure ?_
  show wpAny _ _ (handedOut (.ref D)) _ _ _
  rw [handedOut_of (v := .ref D) rfl]
  first
    | exact wpAny_pure (wpAny_pure h)
    | exact wpAny_pure h
    | exact wpAny_pure (wpAny_bind (wpAny_pure (wpAny_pure h)))
theorem kitx_exo (hga : findIn K (.ref D) "__getattribute__" = some (some (.builtin "BaseException.__getattribute__"))) (hgt : findIn K (.ref D) "__getattr__" = some none) (hsub : subIn K (.ref D) (.type "BaseException") = some true) (hdct : hasDictIn K D = true) (ha : findIn K (.ref D) "__class__" = some (some (.builtin "object.__class__")))
    (hn : specialIn K (.builtin "object.__class__") "__get__" = some (some (.builtin "getset_descriptor.__get__"))) (htk : takesIn K (.builtin "object.__class__") = some true) (hm : mroIn K D (.type "object") = some true) :
    KitX K (.ref x) (.ref D) (fun h => ∃ ox od, InstAt h x ox D od) where
  ty := fun _ _ _ ⟨_, _, I⟩ => I.type
  it := fun _ _ X _ => by
    obtain ⟨cdD, hcD, _⟩ := any_some hdct
    unfold clsIn at hcD
    split at hcD
    · rename_i c' d' cd' sl' ho
      intro A' Q' E' s' k q
      unfold isType loadHead
      exact wpAny_bind (wpAny_loadPart (k _ _ (X _ _ ho)) (wpAny_pure q))
    · cases hcD
  ne := fun h tp dd its n sl X htp => by
    obtain ⟨cdD, hcD, _⟩ := any_some hdct
    refine Bool.eq_false_iff.mpr fun q => ?_
    have e : D = tp := Value.ref.inj (beq_iff_eq.mp q)
    subst e
    unfold clsIn at hcD
    split at hcD
    · rename_i c' d' cd' sl' ho
      have z := (X _ _ ho).symm.trans htp
      cases z
    · cases hcD
  ca := fun X ⟨_, _, I⟩ k => kin_classX hga hgt hsub hdct ha hn htk hm X I k
end
end EX
end Ld
namespace Ld
open PySem PySem.Spec PyProof.Rows L2
/-- isinstance(e, c) of an exception that stands -/
def rIsX (K : PySem.W.Frag) : List V → Hp → VK → Prop := fun xs H Q => ∃ (a C d : Addr) (fs : List (Str × V)) (c : V) (cv : Value) (b : Bool), xs = [.ref a, c] ∧ ExV H a C d fs ∧ ExcC K C ∧ (∀ u, RelV c u → u = cv) ∧ PySem.W.kitOne K (.ref C) cv = some b ∧ Q (.bl b) H
theorem call_isX {X : Cx} {K : PySem.W.Frag} (hK : X.K = K := by rfl) : CallR X (.builtin "isinstance") (rIsX K) := by
  subst hK
  intro pins s σ H xs us Q I r h
  obtain ⟨a, D, d, fs, c, cv, b, rfl, z, C, hcv, e, q⟩ := h
  cases r with
  | cons rx rr =>
    cases rr with
    | cons rt rr =>
      cases rr
      cases rx
      have ec := hcv _ rt
      subst ec
      obtain ⟨oe, od, mA, J, _, _, _⟩ := z.inst I.hok
      exact PySem.W.kia_one (EX.kitx_exo C.hg C.hk C.hs C.hd C.ha C.hn C.ht C.hm) I.kIn ⟨oe, some od, J⟩ e (fun z => nomatch z) fun tk => ⟨.bl b, H, I.kept (t' := tk) fun _ _ z => z, rfl, q⟩
end Ld
/-! Data of any depth, with dicts by texts. -/
namespace Ld
open PySem L2 PyProof.Rows
def noWell (kvs : List (Key × V)) : Prop := kvs.map (·.1) ≠ [(Sum.inr (Str.ofString "digits") : Key), Sum.inr (Str.ofString "mixed")]
mutual
inductive Dd (K : PySem.W.Frag) (H : Hp) : V → PyData → Prop
  | non : Dd K H .non .none
  | bl (b : Bool) : Dd K H (.bl b) (.bool b)
  | int (i : Int) : Dd K H (.int i) (.int i)
  | str (x : Str) : Dd K H (.str x) (.str x)
  | lst {a : Addr} {xs : List V} {ds : List PyData} : SqL K H a xs → a ≠ sysModules → DdAll K H xs ds → Dd K H (.ref a) (.list ds)
  | tup {a : Addr} {xs : List V} {ds : List PyData} : SqT K H a xs → DdAll K H xs ds → Dd K H (.ref a) (.tuple ds)
  | dct {a : Addr} {kvs : List (Key × V)} {ds : List (PyData × PyData)} : H a = some (.dK kvs) → noWell kvs → DdKv K H kvs ds → Dd K H (.ref a) (.dict ds)
inductive DdAll (K : PySem.W.Frag) (H : Hp) : List V → List PyData → Prop
  | nil : DdAll K H [] []
  | cons {v : V} {d : PyData} {vs : List V} {ds : List PyData} : Dd K H v d → DdAll K H vs ds → DdAll K H (v :: vs) (d :: ds)
inductive DdKv (K : PySem.W.Frag) (H : Hp) : List (Key × V) → List (PyData × PyData) → Prop
  | nil : DdKv K H [] []
  | cons {x : Str} {v : V} {d : PyData} {vs : List (Key × V)} {ds : List (PyData × PyData)} : Dd K H v d → DdKv K H vs ds → DdKv K H ((Sum.inr x, v) :: vs) ((.str x, d) :: ds)
end
section
variable {K : PySem.W.Frag} {H H' : Hp}
mutual
theorem dd_mono (hL : ∀ a xs, SqL K H a xs → SqL K H' a xs) (hT : ∀ a xs, SqT K H a xs → SqT K H' a xs) (hD : ∀ a kvs, H a = some (.dK kvs) → noWell kvs → H' a = some (.dK kvs)) : ∀ {v : V} {d : PyData}, Dd K H v d → Dd K H' v d
  | _, _, .non => .non
  | _, _, .bl b => .bl b
  | _, _, .int i => .int i
  | _, _, .str x => .str x
  | _, _, .lst a n b => .lst (hL _ _ a) n (ddAll_mono hL hT hD b)
  | _, _, .tup a b => .tup (hT _ _ a) (ddAll_mono hL hT hD b)
  | _, _, .dct a n b => .dct (hD _ _ a n) n (ddKv_mono hL hT hD b)
theorem ddAll_mono (hL : ∀ a xs, SqL K H a xs → SqL K H' a xs) (hT : ∀ a xs, SqT K H a xs → SqT K H' a xs) (hD : ∀ a kvs, H a = some (.dK kvs) → noWell kvs → H' a = some (.dK kvs)) : ∀ {v : List V} {d : List PyData}, DdAll K H v d → DdAll K H' v d
  | _, _, .nil => .nil
  | _, _, .cons a b => .cons (dd_mono hL hT hD a) (ddAll_mono hL hT hD b)
theorem ddKv_mono (hL : ∀ a xs, SqL K H a xs → SqL K H' a xs) (hT : ∀ a xs, SqT K H a xs → SqT K H' a xs) (hD : ∀ a kvs, H a = some (.dK kvs) → noWell kvs → H' a = some (.dK kvs)) : ∀ {v : List (Key × V)} {d : List (PyData × PyData)}, DdKv K H v d → DdKv K H' v d
  | _, _, .nil => .nil
  | _, _, .cons a b => .cons (dd_mono hL hT hD a) (ddKv_mono hL hT hD b)
end
theorem Dd.same {v : V} {d : PyData} (h : Dd K H v d) (s : Same H H') : Dd K H' v d := dd_mono (fun _ _ q => s.seq q) (fun _ _ q => same_T s q) (fun _ _ q _ => s _ _ q) h
theorem Well.neD {wa b : Addr} {kvs : List (Key × V)} (W : Well H wa) (e : H b = some (.dK kvs)) (n : noWell kvs) : b ≠ wa := by
  obtain ⟨d, m, h, _⟩ := W
  intro z
  subst z
  rw [h] at e
  cases e
  exact n rfl
theorem Dd.sb {v : V} {d : PyData} {wa : Addr} (h : Dd K H v d) (W : Well H wa) (s : Sb wa H H') : Dd K H' v d := dd_mono (fun _ _ q => seqL W s q) (fun _ _ q => seqT W s q) (fun _ _ q n => s _ _ (W.neD q n) q) h
theorem Dd.ty {v : V} {d : PyData} (z : Dd K H v d) : TyX K H v (.type (kindOf d)) := by
  cases z with
  | non => exact .base .non
  | bl b => exact .base (.bl b)
  | int i => exact .base (.int i)
  | str x => exact .base (.str x)
  | lst hs _ _ =>
    rcases hs with (hs | ⟨o, hs⟩) | ⟨o, its, n, hk, hc, _⟩
    · exact .base (.lst hs)
    · exact .base (.frz hs)
    · exact .kList hk hc
  | tup hs _ =>
    rcases hs with (hs | ⟨o, hs⟩) | ⟨o, its, n, hk, hc, _⟩
    · exact .base (.tup hs)
    · exact .fTuple hs
    · exact .kTuple hk hc
  | dct z _ _ => exact .base (.dK z)
theorem DdAll.append : ∀ {xs ys : List V} {ds es : List PyData}, DdAll K H xs ds → DdAll K H ys es → DdAll K H (xs ++ ys) (ds ++ es)
  | _, _, _, _, .nil, h => h
  | _, _, _, _, .cons a b, h => .cons a (b.append h)
theorem DdAll.get : ∀ {xs : List V} {ds : List PyData}, DdAll K H xs ds → ∀ (i : Nat) (x : V), xs[i]? = some x → ∃ d, ds[i]? = some d ∧ Dd K H x d
  | _, _, .nil, i, x, e => by simp at e
  | _, _, .cons a b, 0, x, e => by
    simp at e
    subst e
    exact ⟨_, rfl, a⟩
  | _, _, .cons a b, i + 1, x, e => by
    obtain ⟨d, q1, q2⟩ := b.get i x (by simpa using e)
    exact ⟨d, by simpa using q1, q2⟩
theorem DdAll.len : ∀ {xs : List V} {ds : List PyData}, DdAll K H xs ds → xs.length = ds.length
  | _, _, .nil => rfl
  | _, _, .cons a b => by simp [b.len]
end
/-! ### repr of it -/
section
variable {K : PySem.W.Frag} {P : Program} {w : World} {H : Hp} {h : Heap}
def NoSys (as : List Addr) : Prop := ¬ sysModules ∈ as
mutual
theorem dd_reads (ok : HOk P w H h) (kin : K.In h) : ∀ {v : V} {d : PyData} {u : Value}, Dd K H v d → RelV v u → ∃ as, Reads h u d as ∧ NoSys as
  | _, _, _, .non, r => by cases r; exact ⟨_, .none, fun z => nomatch z⟩
  | _, _, _, .bl b, r => by cases r; exact ⟨_, .bool b, fun z => nomatch z⟩
  | _, _, _, .int i, r => by obtain ⟨t, rfl⟩ := r; exact ⟨_, .int i t, fun z => nomatch z⟩
  | _, _, _, .str x, r => by obtain ⟨t, rfl⟩ := r; exact ⟨_, .str x t, fun z => nomatch z⟩
  | _, _, _, .lst hs ns ha, r => by
    cases r
    rcases hs with hs | ⟨o, its, n, hk, hc, hd, hs, hz, rv⟩
    · obtain ⟨z, its, n, rv, e⟩ := hs.ok ok
      obtain ⟨as, hr, hn⟩ := ddAll_reads ok kin ha rv
      refine ⟨_, .list e rfl rfl hr, fun q => ?_⟩
      rcases List.mem_cons.mp q with q | q
      · exact ns q.symm
      · exact hn q
    · obtain ⟨as, hr, hn⟩ := ddAll_reads ok kin ha rv
      refine ⟨_, .list (kin _ o hk) hc hs hr, fun q => ?_⟩
      rcases List.mem_cons.mp q with q | q
      · exact ns q.symm
      · exact hn q
  | _, _, _, .tup hs ha, r => by
    cases r
    rcases hs with hs | ⟨o, its, n, hk, hc, hs, hz, rv⟩
    · obtain ⟨z, its, rv, o, e, c, n, dt⟩ := hs.ok ok
      obtain ⟨as, hr, hn⟩ := ddAll_reads ok kin ha rv
      exact ⟨_, .tuple e c dt hr, hn⟩
    · obtain ⟨as, hr, hn⟩ := ddAll_reads ok kin ha rv
      exact ⟨_, .tuple (kin _ o hk) hc hs hr, hn⟩
  | _, _, _, .dct z n kv, r => by
    cases r
    obtain ⟨_, hm, vs, kvr, o, es, ep, e1, e2, e3, _, e4, _⟩ := dk_of ok z
    obtain ⟨as, bs, h1, h2, n1, n2⟩ := ddKv_reads ok kin kv kvr e4
    refine ⟨_, .dict (as := as) (bs := bs) e1 e2.1 e3 h1 h2, fun hin => ?_⟩
    rcases List.mem_append.mp hin with q | q
    · rcases List.mem_cons.mp q with q | q
      · rw [← q] at hm
        exact absurd hm (by decide)
      · exact n1 q
    · exact n2 q
theorem ddAll_reads (ok : HOk P w H h) (kin : K.In h) : ∀ {vs : List V} {ds : List PyData} {us : List Value}, DdAll K H vs ds → Vals vs us → ∃ as, ReadsAll h us ds as ∧ NoSys as
  | _, _, _, .nil, r => by cases r; exact ⟨_, .nil, fun z => nomatch z⟩
  | _, _, _, .cons a b, r => by
    cases r with
    | cons r1 r2 =>
      obtain ⟨as, q1, n1⟩ := dd_reads ok kin a r1
      obtain ⟨bs, q2, n2⟩ := ddAll_reads ok kin b r2
      exact ⟨_, .cons q1 q2, fun z => (List.mem_append.mp z).elim n1 n2⟩
theorem ddKv_reads (ok : HOk P w H h) (kin : K.In h) : ∀ {kvs : List (Key × V)} {ds : List (PyData × PyData)} {vs : List (Key × Value)} {es : List DictEntry}, DdKv K H kvs ds → KV kvs vs → Pairs (mixKind P w) es vs →
    ∃ as bs, ReadsAll h (es.map (·.key)) (ds.map (·.1)) as ∧ ReadsAll h (es.map (·.val)) (ds.map (·.2)) bs ∧ NoSys as ∧ NoSys bs
  | _, _, _, es, .nil, kv, e4 => by
    cases kv
    cases es with
    | nil => exact ⟨_, _, .nil, .nil, (fun z => nomatch z), fun z => nomatch z⟩
    | cons x y => cases e4
  | _, _, _, es, .cons (x := x) a b, kv, e4 => by
    cases kv with
    | @cons _ kv1 _ _ q kv2 =>
      obtain ⟨q1, q2⟩ := q
      obtain ⟨k1, v1⟩ := kv1
      cases q1
      cases es with
      | nil => cases e4
      | cons x1 x2 =>
        cases e4 with
        | cons g1 g2 g3 =>
          have g4 : ∃ t', x1.key = .str x t' := by
            rcases keyIs_shape (show keyIs (.inr x) x1.key = true from g1) with ⟨i, t', z1, _⟩ | ⟨y', t', z1, z2⟩
            · cases z1
            · cases z1
              exact ⟨t', z2⟩
          obtain ⟨t', g4⟩ := g4
          obtain ⟨as, r1, n1⟩ := dd_reads ok kin a q2
          obtain ⟨bs, cs, r2, r3, n2, n3⟩ := ddKv_reads ok kin b kv2 g3
          refine ⟨[] ++ bs, as ++ cs, ?_, ?_, n2, fun z => (List.mem_append.mp z).elim n1 n3⟩
          · show ReadsAll h (x1.key :: x2.map (·.key)) _ _
            rw [g4]
            exact .cons (.str x t') r2
          · show ReadsAll h (x1.val :: x2.map (·.val)) _ _
            rw [g2]
            exact .cons r1 r3
end
theorem Dd.rds {v : V} {d : PyData} (z : Dd K H v d) : Rds K P w H v d := fun h ok kin u r => by
  obtain ⟨as, q, n⟩ := dd_reads ok kin z r
  exact ⟨as, q, fun _ => n⟩
end
end Ld
/-! New lists, apart from the table of modules. -/
namespace Ld
open PySem L2 PyProof.Rows
section
variable {X : Cx}
def tLstN (t : TA) : TE := fun σ H Q => t σ H fun xs H1 => xs.length ≤ sizeLine ∧ ∀ p, H1 p = none → p ≠ sysModules → Q (.ref p) (upd H1 p (.lst xs))
theorem pe_lstN {es : List Expr} {t : TA} {pos : Pos} (h : PA X es t) : PE X (.List es pos) (tLstN t) := by
  refine ⟨fun pins s σ H Q I hq => ?_⟩
  refine wpAny_List_spliced (thn (h.run pos pins s σ H _ I hq) fun us s1 ⟨xs, H1, I1, r, z, q⟩ => ⟨by rw [← r.length]; exact z, ?_⟩)
  have hf : H1 s1.heap.objs.size = none := I1.hok.fresh (Nat.le_refl _)
  refine ⟨.ref s1.heap.objs.size, upd H1 s1.heap.objs.size (.lst xs), I1.laid (t' := s1.toks) (fun b u e => Heap.get?_push_of_some _ e) (Nat.le_refl _) ?_, rfl, q _ hf (Nat.ne_of_gt I1.big)⟩
  exact ⟨z, us, 0, r, Heap.get?_push_size _ rfl⟩
def rCatN : R2 := fun x y H Q => ∃ l b xs zs, x = .ref l ∧ y = .ref b ∧ H l = some (.lst xs) ∧ H b = some (.lst zs) ∧ xs.length + zs.length ≤ sizeLine ∧ ∀ p, H p = none → p ≠ sysModules → Q (.ref p) (upd H p (.lst (xs ++ zs)))
theorem op_catN : OpR X (binaryOp .Add) rCatN := by
  intro pins s σ H x y v u Q I rx ry h
  obtain ⟨l, b, xs, zs, rfl, rfl, hH, hB, hz, q⟩ := h
  cases rx
  cases ry
  obtain ⟨z, its, n, r, hl, e⟩ := I.lstM hH
  obtain ⟨z2, its2, n2, r2, hl2, e2⟩ := I.lstM hB
  refine PySem.P.add_list e e2 ?_ (by rw [List.size_toArray, List.size_toArray]; omega)
  have ea : its.toArray ++ its2.toArray = (its ++ its2).toArray := by simp
  rw [ea]
  exact ⟨.ref _, _, I.lnew (t' := s.toks) (r.append r2) (by rw [List.length_append]; omega), rfl, q _ I.fresh (Nat.ne_of_gt I.big)⟩
def rRepN : R2 := fun x y H Q => ∃ l k xs, x = .ref l ∧ y = .int k ∧ H l = some (.lst xs) ∧ -(2 ^ 63) ≤ k ∧ k < 2 ^ 63 ∧ xs.length * k.toNat ≤ sizeLine ∧
  ∀ p, H p = none → p ≠ sysModules → Q (.ref p) (upd H p (.lst (List.replicate k.toNat xs).flatten))
theorem op_repN : OpR X (binaryOp .Mult) rRepN := by
  intro pins s σ H x y v u Q I rx ry h
  obtain ⟨l, k, xs, rfl, rfl, hH, h1, h2, hz, q⟩ := h
  cases rx
  obtain ⟨t, rfl⟩ := ry
  obtain ⟨z, its, n, r, hl, e⟩ := I.lstM hH
  have hlen : its.toArray.size * k.toNat ≤ sizeLine := by rw [List.size_toArray, ← hl]; exact hz
  have hcap : ¬ its.toArray.size * k.toNat > (2 ^ 63 - 1) / 8 := by
    have : (sizeLine : Nat) ≤ (2 ^ 63 - 1) / 8 := by decide
    omega
  have hfit : ¬ (!Builtin.List.listFitsIndex k) = true := by
    rw [fitsIndex_both h1 h2]
    exact Bool.false_ne_true
  have hlong : ¬ Builtin.List.listTooLong (its.toArray.size * k.toNat) = true := by
    rw [notLongL hlen]
    exact Bool.false_ne_true
  have hnew : List.foldl (fun x1 x2 => x1 ++ x2) #[] (List.replicate (if its.toArray.isEmpty = true then 0 else k.toNat) its.toArray) = (List.replicate k.toNat its).flatten.toArray := by
    have f0 : ∀ m : Nat, List.foldl (fun x1 x2 => x1 ++ x2) #[] (List.replicate m its.toArray) = (List.replicate m its).flatten.toArray := fun m => by
      have := foldl_rep its m []
      rw [List.nil_append] at this
      exact this
    rw [f0]
    cases its with
    | nil => simp
    | cons a r' => rw [if_neg (by simp)]
  refine wpAny_binaryOp_repeat_ref (T := "list") (U := "int") (by decide) ⟨_, e, rfl⟩ (fun s' => typeIs_int s' k t) noFill_list_mul F.fills_int_mul F.slot_int_rmul repeat_list F.slot_int_index.lookup
    (call_meets F.slot_int_rmul (typeIs_int s k t) F.entry_int_rmul (F.args_int_rmul_2 _ _) (int___rmul___int_list k t l its.toArray n)
      ⟨e, rfl, ⟨_, e, rfl⟩, call_meets F.slot_list_mul ⟨_, e, rfl⟩ F.entry_list_mul (F.args_list_mul_2 _ _) (AutoListH.list___mul___list_int_3 l its.toArray n k t hfit hcap hlong) ⟨e, ?_⟩⟩)
  rw [hnew]
  exact ⟨.ref _, _, I.lnew (t' := s.toks) (r.rep k.toNat) (by rw [PyProof.Rows.lm_len_rep_flat, Nat.mul_comm]; exact hz), rfl, q _ I.fresh (Nat.ne_of_gt I.big)⟩
end
section
variable {K : PySem.W.Frag} {H : Hp} {v : V}
theorem Dd.int_v {i : Int} (h : Dd K H v (.int i)) : v = .int i := by
  cases h
  rfl
theorem Dd.str_v {z : Str} (h : Dd K H v (.str z)) : v = .str z := by
  cases h
  rfl
theorem Dd.its {ds : List PyData} (z : Dd K H v (.tuple ds)) : ∃ a xs, v = .ref a ∧ SqT K H a xs ∧ xs.length = ds.length ∧ ∀ (i : Nat) (x : V), xs[i]? = some x → ∃ d, ds[i]? = some d ∧ Dd K H x d := by
  cases z with
  | tup hs ha => exact ⟨_, _, rfl, hs, ha.len, ha.get⟩
end
end Ld
/-! Data of any kind against a text. -/
namespace Ld
namespace EQ
open PySem PySem.Builtin PyProof.Rows PySem.SeqAt PySem.MeetsSeq
section
variable {A : Around} {s : Shared}
theorem dict_declines_str (l : Addr) (es : Array DictEntry) (ep : Nat) (dd : Option Addr) (sl : Array (Option Value)) (b : Str) (u : Tok) :
    Meets (Builtin.«dict.__eq__» ⟨[.ref l, .str b u], []⟩) (fun _ R s => s.heap.get? l = some { cls := .type "dict", dict := dd, data := .dict es ep, slots := sl } ∧ R (.ok (.ret .notImplemented)) s) :=
  .of_wp fun prog w A R s h => by obtain ⟨hp, g, d, tk, os⟩ := s; obtain ⟨hl, h⟩ := h; have f1 := F.sub_str_dict; wp_walk using wpAny_loadPart' hl; exact ⟨_, rfl, h⟩
theorem str_declines_dict (b : Str) (u : Tok) (l : Addr) (es : Array DictEntry) (ep : Nat) (dd : Option Addr) (sl : Array (Option Value)) :
    Meets (Builtin.«str.__eq__» ⟨[.str b u, .ref l], []⟩) (fun _ R s => s.heap.get? l = some { cls := .type "dict", dict := dd, data := .dict es ep, slots := sl } ∧ R (.ok (.ret .notImplemented)) s) :=
  .of_wp fun prog w A R s h => by obtain ⟨hp, g, d, tk, os⟩ := s; obtain ⟨hl, h⟩ := h; wp_walk using wpAny_loadPart' hl, wpAny_load hl; exact ⟨_, rfl, h⟩
theorem rc_dict_str {l : Addr} {es : Array DictEntry} {ep : Nat} {dd : Option Addr} {sl : Array (Option Value)} (b : Str) (u : Tok) (ho : s.heap.get? l = some { cls := .type "dict", dict := dd, data := .dict es ep, slots := sl }) (hu : A.units < cLine) : RcAt A s (.ref l) (.str b u) false := fun prog w E Q h => by
  exact rc_eq_decline_or (k := false) ⟨_, ho, rfl⟩ (typeIs_str s b u) (by decide) F.sub_str_dict F.slot_dict_eq F.slot_str_eq_refl
    (fun _ hq => call_meets F.slot_dict_eq ⟨_, ho, rfl⟩ F.entry_dict_eq (F.args_dict_eq_2 _ _) (dict_declines_str l es ep dd sl b u) ⟨ho, hq⟩)
    (fun _ hq => call_meets F.slot_str_eq_refl (typeIs_str s b u) F.entry_str_eq (F.args_str_eq_2 _ _) (str_declines_dict b u l es ep dd sl) ⟨ho, hq⟩)
    (fun _ hq => wpAny_of_eq (rfl : isSame (.ref l) (.str b u) = pure false) hq) (.inr hu) h
end
end EQ
end Ld
namespace Ld
open PySem L2 PyProof.Rows
def txtD : PyData → Str → Bool
  | .str x, z => decide (x = z)
  | _, _ => false
/-- any data == a text -/
def rEqTx (K : PySem.W.Frag) : R2 := fun x y H Q => ∃ d z, Dd K H x d ∧ y = .str z ∧ Q (.bl (txtD d z)) H
theorem op_eqTx {X : Cx} (hu : X.A.units < cLine) : OpR X (compareOp .Eq) (rEqTx X.K) := by
  intro pins s σ H x y v u Q I rx ry h
  obtain ⟨d, z, hd, rfl, q⟩ := h
  have flat : ∀ b : Bool, flatV x = true → (decide (x = V.str z)) = b → txtD d z = b → EP X pins σ Q (.bool b) s := fun b _ _ e => by
    rw [e] at q
    exact ⟨.bl b, H, I, rfl, q⟩
  cases hd with
  | non => exact op_eq pins s σ H _ _ v u Q I rx ry ⟨rfl, q⟩
  | bl b => exact op_eq pins s σ H _ _ v u Q I rx ry ⟨rfl, q⟩
  | int i => exact op_eq pins s σ H _ _ v u Q I rx ry ⟨rfl, q⟩
  | str x0 =>
    refine op_eq pins s σ H _ _ v u Q I rx ry ⟨rfl, ?_⟩
    have e : decide (V.str x0 = V.str z) = txtD (.str x0) z := by
      show decide (V.str x0 = V.str z) = decide (x0 = z)
      by_cases h : x0 = z
      · subst h
        simp
      · have : ¬ V.str x0 = V.str z := fun e => h (V.str.inj e)
        rw [decide_eq_false this, decide_eq_false h]
    rw [e]
    exact q
  | lst hs _ _ =>
    cases rx
    obtain ⟨t, rfl⟩ := ry
    obtain ⟨its, r, ht, hz⟩ := I.list hs
    exact SeqAt.RcAt.list_str z t ht.isList hu X.prog X.w X.xe _ ⟨.bl false, H, I, rfl, q⟩
  | tup hs _ =>
    cases rx
    obtain ⟨t, rfl⟩ := ry
    obtain ⟨its, r, ht, hz⟩ := I.tuple hs
    exact SeqAt.RcAt.tuple_str z t ht hu X.prog X.w X.xe _ ⟨.bl false, H, I, rfl, q⟩
  | dct hk _ _ =>
    cases rx
    obtain ⟨t, rfl⟩ := ry
    obtain ⟨_, hm, vs, kvr, o, es, ep, e1, e2, e3, _⟩ := dk_of I.hok hk
    obtain ⟨oc, od, odt, osl⟩ := o
    dsimp only at e2 e3
    subst e3
    obtain ⟨e4, e5⟩ := e2
    dsimp only at e4
    subst e4
    exact EQ.rc_dict_str z t e1 hu X.prog X.w X.xe _ ⟨.bl false, H, I, rfl, q⟩
end Ld
namespace K4
open PySem L2 Ld
def top (i : Nat) : Stmt := PySem.Challenge.pw_leadsever_k04_what_is_a_rule.main.body.getD i (.Pass ⟨0, 0, 0, 0⟩)
abbrev sNum : Stmt := top 8
abbrev sWord : Stmt := top 9
abbrev sAddr : Stmt := top 10
abbrev sPlace : Stmt := top 11
/-- what is left of the top -/
structure Tx (mg : Str → Option Value) : Prop where
  isi : mg "isinstance" = none
  int : mg "int" = none
  bool : mg "bool" = none
  str : mg "str" = none
  tuple : mg "tuple" = none
  list : mg "list" = none
  len : mg "len" = none
  range : mg "range" = none
  repr : mg "repr" = none
  max : mg "max" = none
  min : mg "min" = none
  wl : ∃ t, mg "WORD_LETTERS" = some (.int 12 t)
  pw : ∃ t, mg "PLACE_WORDS" = some (.int 4 t)
  md : ∃ t, mg "MOST_DAYS" = some (.int 10000 t)
section
variable {P : Program} {w : World} {K : PySem.W.Frag} {mg : Str → Option Value} {base : Heap} {f : Addr} {fd : FuncData}
def spNum (K : PySem.W.Frag) : Sp := fun vs H Q _ => ∃ (v : V) (d : PyData) (hi : Int), vs = [v, .int hi] ∧ Dd K H v d ∧ Q (.bl (numD hi d)) H
theorem scN : FnScope ["value", "highest"] ["value", "highest"] (defScope sNum) := ⟨rfl, rfl, rfl, by decide +kernel, rfl, by decide +kernel, by decide +kernel⟩
theorem ok_num (F : Fun K "is_number_to" "is_number_to" sNum f fd) (T : Tx mg) : FnOk P w K mg base CX0 1 f fd ["value", "highest"] (spNum K) := by
  refine F.ok scN (fun vs H Q E h => ?_) (fun cdv A outer s H vs Q E hr h => ?_)
  · obtain ⟨v, d, hi, rfl, _⟩ := h
    rfl
  · obtain ⟨v, d, hi, rfl, hT, q⟩ := h
    refine ⟨_, pss_one (ps_ret (pe_and (pe_callB (call_isa "int") (by rfl) T.isi bootN (pa_cons (pv 0) (pa_cons (pe_bltn (v := .ty "int") (by rfl) T.int (by decide +kernel) rfl) pa_nil)))
      (pe_and (pe_not (pe_callB (call_isa "bool") (by rfl) T.isi bootN (pa_cons (pv 0) (pa_cons (pe_bltn (v := .ty "bool") (by rfl) T.bool (by decide +kernel) rfl) pa_nil)))) (pe_one (pe_chain op_le op_le pe_int (pv 0) (pv 1)))))), ?_⟩
    refine ⟨_, rfl, _, rfl, _, _, hT.ty, kit_int d, _, rfl, ?_⟩
    by_cases hi1 : isIntD d = true
    · rw [hi1]
      refine iteT ⟨_, rfl, _, rfl, _, _, hT.ty, kit_bool d, _, rfl, _, rfl, ?_⟩
      cases d with
      | int i =>
        have e := hT.int_v
        subst e
        refine iteT ⟨_, rfl, _, _, rfl, rfl, _, rfl, ?_⟩
        by_cases h0 : 0 ≤ i
        · rw [decide_eq_true h0]
          refine iteT ⟨_, rfl, _, _, rfl, rfl, ?_⟩
          have e : numD hi (.int i) = decide (i ≤ hi) := by simp [numD, h0]
          rw [e] at q
          exact q
        · rw [decide_eq_false h0]
          have e : numD hi (.int i) = false := by simp [numD, h0]
          rw [e] at q
          exact iteF q
      | bool b => exact iteF q
      | none => cases hi1
      | str z => cases hi1
      | list ds => cases hi1
      | tuple ds => cases hi1
      | dict ds => cases hi1
    · have hi2 : isIntD d = false := by simpa using hi1
      rw [hi2]
      have e : numD hi d = false := by
        cases d <;> first | rfl | (simp [isIntD] at hi2)
      rw [e] at q
      exact iteF q
def spWord (K : PySem.W.Frag) : Sp := fun vs H Q _ => ∃ (v : V) (d : PyData), vs = [v] ∧ Dd K H v d ∧ FitS d ∧ Q (.bl (wordD d)) H
theorem scW : FnScope ["value"] ["value"] (defScope sWord) := ⟨rfl, rfl, rfl, by decide +kernel, rfl, by decide +kernel, by decide +kernel⟩
theorem ok_word (F : Fun K "is_word" "is_word" sWord f fd) (T : Tx mg) : FnOk P w K mg base CX0 1 f fd ["value"] (spWord K) := by
  refine F.ok scW (fun vs H Q E h => ?_) (fun cdv A outer s H vs Q E hr h => ?_)
  · obtain ⟨v, d, rfl, _⟩ := h
    rfl
  · obtain ⟨v, d, rfl, hT, hf, q⟩ := h
    obtain ⟨t, hl⟩ := T.wl
    refine ⟨_, pss_cons (ps_if (PW.pt (pw_or (pt_not (pt_val (pe_callB (call_isa "str") (by rfl) T.isi bootN (pa_cons (pv 0) (pa_cons (pe_bltn (v := .ty "str") (by rfl) T.str (by decide +kernel) rfl) pa_nil)))))
        (pw_or1 (pt_not (pt_chain op_le op_le pe_int (pe_callB call_len_str (by rfl) T.len PySem.boot_len (pa_cons (pv 0) pa_nil)) (pe_glob (v := .int 12) (by rfl) hl ⟨_, rfl⟩))))))
        (pss_one (ps_ret pe_bl)) pss_nil)
      (pss_one (ps_ret (pe_and (pe_m0 PySem.F.slot_str_isascii PySem.F.type_str_isascii mt_isascii (pv 0)) (pe_and (pe_m0 PySem.F.slot_str_isalpha PySem.F.type_str_isalpha mt_isalpha (pv 0)) (pe_one (pe_m0 PySem.F.slot_str_islower PySem.F.type_str_islower mt_islower (pv 0))))))), ?_⟩
    refine ⟨_, rfl, _, rfl, _, _, hT.ty, kit_str d, _, rfl, ?_⟩
    cases d with
    | str z =>
      have e := hT.str_v
      subst e
      have hf : z.length ≤ sizeLine := (hf z rfl).size
      refine iteF ⟨_, rfl, _, rfl, hf, _, _, rfl, rfl, _, rfl, ?_⟩
      have bad : (decide (1 ≤ z.length) && decide (z.length ≤ 12)) = false → wordD (.str z) = false := fun e => by
        show wordS z = false
        unfold wordS
        rw [e, Bool.false_and]
      by_cases h1 : (1 : Int) ≤ (z.length : Int)
      · rw [decide_eq_true h1]
        refine iteT ⟨_, _, rfl, rfl, _, rfl, ?_⟩
        by_cases h2 : (z.length : Int) ≤ 12
        · rw [decide_eq_true h2]
          refine iteF ⟨_, rfl, ⟨_, rfl⟩, _, rfl, rfl, trivial, _, rfl, ?_⟩
          have e : wordD (.str z) = (Txt.isascii z && (Txt.isalpha z && Txt.islower z)) := by
            rw [lows_eq (by omega)]
            show wordS z = _
            unfold wordS
            rw [decide_eq_true (show 1 ≤ z.length by omega), decide_eq_true (show z.length ≤ 12 by omega)]
            rfl
          rw [e] at q
          cases ea : Txt.isascii z with
          | false =>
            rw [ea] at q
            exact iteF q
          | true =>
            rw [ea] at q
            refine iteT ⟨_, rfl, ⟨_, rfl⟩, _, rfl, rfl, trivial, _, rfl, ?_⟩
            cases eb : Txt.isalpha z with
            | false =>
              rw [eb] at q
              exact iteF q
            | true =>
              rw [eb] at q
              exact iteT ⟨_, rfl, ⟨_, rfl⟩, _, rfl, rfl, trivial, q⟩
        · rw [decide_eq_false h2]
          rw [bad (by rw [decide_eq_false (show ¬ z.length ≤ 12 by omega), Bool.and_false])] at q
          exact iteT q
      · rw [decide_eq_false h1]
        rw [bad (by rw [decide_eq_false (show ¬ 1 ≤ z.length by omega), Bool.false_and])] at q
        exact iteF ⟨_, rfl, iteT q⟩
    | _ => exact iteT q
def spAddr (K : PySem.W.Frag) : Sp := fun vs H Q _ => ∃ (v : V) (d : PyData), vs = [v] ∧ Dd K H v d ∧ Fits d ∧ Q (.bl (addrD d)) H
theorem scA : FnScope ["value", "word"] ["value"] (defScope sAddr) := ⟨rfl, rfl, rfl, by decide +kernel, rfl, by decide +kernel, by decide +kernel⟩
theorem all_take {ds : List PyData} {p : PyData → Bool} {i : Nat} {d : PyData} (h : ds[i]? = some d) : (ds.take (i + 1)).all p = ((ds.take i).all p && p d) := by
  rw [List.take_succ, h]
  simp
theorem ok_addr (Fd : Fun K "is_address" "is_address" sAddr f fd) (T : Tx mg) (D : Df P w K mg base 1 "is_word" ["value"] (spWord K)) : FnOk P w K mg base CX0 2 f fd ["value"] (spAddr K) := by
  refine Fd.ok scA (fun vs H Q E h => ?_) (fun cdv A outer s H vs Q E hr h => ?_)
  · obtain ⟨v, d, rfl, _⟩ := h
    rfl
  · obtain ⟨v, d, rfl, hT, hf, q⟩ := h
    refine ⟨_, pss_cons (ps_if (pt_not (pt_val (pe_callB (call_isa "tuple") (by rfl) T.isi bootN (pa_cons (pv 0) (pa_cons (pe_bltn (v := .ty "tuple") (by rfl) T.tuple (by decide +kernel) rfl) pa_nil))))) (pss_one (ps_ret pe_bl)) pss_nil)
      (pss_cons (ps_for PassesOwn.never rfl (pi_tup (pv 0)) (pg_name (i := 1) scA.nd rfl (Or.inl rfl)) (pss_one (ps_if (pt_not (pt_val (pe_df D hr (pa_cons (pv 1) pa_nil)))) (pss_one (ps_ret pe_bl)) pss_nil)))
      (pss_one (ps_ret pe_bl))), ?_⟩
    refine ⟨_, rfl, _, rfl, _, _, hT.ty, kit_tuple d, _, rfl, ?_⟩
    cases d with
    | tuple ds =>
      obtain ⟨a, xs, rfl, hs, hl, hi⟩ := hT.its
      refine iteF ⟨_, rfl, a, rfl, ⟨_, hs⟩, for_tup (K := K) (a := a) (xs := xs) (fun i σ H2 => H2 = H ∧ (∃ u, σ = [some (.ref a), u]) ∧ (ds.take i).all wordD = true) ⟨rfl, ⟨none, rfl⟩, by simp⟩ (fun i σ H2 _ h => by rw [h.1]; exact hs) ?_ ?_⟩
      · rintro i x σ H2 hx ⟨rfl, ⟨u, rfl⟩, ha⟩
        obtain ⟨d, h1, h2⟩ := hi i x hx
        refine ⟨_, rfl, x, d, rfl, h2, (hf.2 ds rfl).2 d (List.mem_of_getElem? h1), _, rfl, ?_⟩
        cases e : wordD d with
          | true =>
            refine iteF ⟨rfl, ⟨_, rfl⟩, ?_⟩
            rw [all_take h1, ha, e]
            rfl
          | false =>
            refine iteT ?_
            have e2 : addrD (.tuple ds) = false := by
              show ds.all wordD = false
              exact List.all_eq_false.mpr ⟨d, List.mem_of_getElem? h1, by rw [e]; exact Bool.false_ne_true⟩
            rw [e2] at q
            exact q
      · rintro σ H2 ⟨rfl, ⟨u, rfl⟩, ha⟩
        have e2 : addrD (.tuple ds) = true := by
          show ds.all wordD = true
          rw [hl, List.take_length] at ha
          exact ha
        rw [e2] at q
        exact q
    | _ => exact iteT q
end
section
variable {P : Program} {w : World} {K : PySem.W.Frag} {mg : Str → Option Value} {base : Heap} {f : Addr} {fd : FuncData}
def placeD : PyData → Bool
  | .tuple ds => decide (ds.length ≤ 4) && ds.all wordD
  | _ => false
def spPlace (K : PySem.W.Frag) : Sp := fun vs H Q _ => ∃ (v : V) (d : PyData), vs = [v] ∧ Dd K H v d ∧ Fits d ∧ Q (.bl (placeD d)) H
theorem scP : FnScope ["value"] ["value"] (defScope sPlace) := ⟨rfl, rfl, rfl, by decide +kernel, rfl, by decide +kernel, by decide +kernel⟩
theorem ok_place (Fd : Fun K "is_place" "is_place" sPlace f fd) (T : Tx mg) (D : Df P w K mg base 2 "is_address" ["value"] (spAddr K)) : FnOk P w K mg base CX0 3 f fd ["value"] (spPlace K) := by
  refine Fd.ok scP (fun vs H Q E h => ?_) (fun cdv A outer s H vs Q E hr h => ?_)
  · obtain ⟨v, d, rfl, _⟩ := h
    rfl
  · obtain ⟨v, d, rfl, hT, hf, q⟩ := h
    obtain ⟨t, hl⟩ := T.pw
    refine ⟨_, pss_one (ps_ret (pe_and (pe_callB (call_isa "tuple") (by rfl) T.isi bootN (pa_cons (pv 0) (pa_cons (pe_bltn (v := .ty "tuple") (by rfl) T.tuple (by decide +kernel) rfl) pa_nil)))
      (pe_and (pe_cmpR op_le (pe_callB call_len_seq (by rfl) T.len PySem.boot_len (pa_cons (pv 0) pa_nil)) (pe_glob (v := .int 4) (by rfl) hl ⟨_, rfl⟩) (nomark _)) (pe_one (pe_df D hr (pa_cons (pv 0) pa_nil)))))), ?_⟩
    refine ⟨_, rfl, _, rfl, _, _, hT.ty, kit_tuple d, _, rfl, ?_⟩
    cases d with
    | tuple ds =>
      obtain ⟨a, xs, rfl, hs, hl, hi⟩ := hT.its
      refine iteT ⟨_, rfl, a, xs, rfl, .inr hs, _, _, rfl, rfl, _, rfl, ?_⟩
      by_cases h4 : ds.length ≤ 4
      · rw [decide_eq_true (by omega)]
        refine iteT ⟨_, rfl, _, .tuple ds, rfl, hT, hf, ?_⟩
        have e : placeD (.tuple ds) = addrD (.tuple ds) := by
          show (decide (ds.length ≤ 4) && ds.all wordD) = ds.all wordD
          rw [decide_eq_true h4, Bool.true_and]
        rw [e] at q
        exact q
      · rw [decide_eq_false (by omega)]
        have e : placeD (.tuple ds) = false := by
          show (decide (ds.length ≤ 4) && ds.all wordD) = false
          rw [decide_eq_false h4, Bool.false_and]
        rw [e] at q
        exact iteF q
    | _ => exact iteF q
end
end K4
namespace K4
open PySem L2 Ld
abbrev sWell : Stmt := top 24
abbrev sDraw : Stmt := top 25
abbrev sChoose : Stmt := top 26
section
variable {P : Program} {w : World} {K : PySem.W.Frag} {mg : Str → Option Value} {base : Heap} {f : Addr} {fd : FuncData}
def spWell (K : PySem.W.Frag) : Sp := fun vs H Q _ => ∃ (a : Addr) (ns : List Int) (j : Int) (B : Nat), vs = [.ref a, .int j] ∧ SqL K H a (ns.map V.int) ∧ ns.length ≤ 63 ∧ 60 ≤ B ∧ B ≤ 2000000 ∧ (∀ z ∈ ns, Builtin.Int.intBits z ≤ B) ∧ 0 ≤ j ∧ j < 100 ∧
  ∀ wa H', H wa = none → Well H' wa → Same H H' → Q (.ref wa) H'
theorem scWell : FnScope ["_law_script", "_law_start", "_law_mixed", "_law_entry", "_law_digits"] ["_law_script", "_law_start"] (defScope sWell) := ⟨rfl, rfl, rfl, by decide +kernel, rfl, by decide +kernel, by decide +kernel⟩
theorem ok_well (Fd : Fun K "_law_well" "_law_well" sWell f fd) (T : Tx mg) : FnOk P w K mg base CX0 1 f fd ["_law_script", "_law_start"] (spWell K) := by
  refine Fd.ok scWell (fun vs H Q E h => ?_) (fun cdv A outer s H vs Q E hr h => ?_)
  · obtain ⟨a, ns, j, B, rfl, _⟩ := h
    rfl
  · obtain ⟨a, ns, j, B, rfl, hS, hlen, hB, hB2, hb, hj0, hj, q⟩ := h
    refine ⟨_, pss_cons (ps_set (i := 2) scWell.nd rfl (Or.inl rfl) (pe_op op_add pe_int (pe_op op_mul (pv 1) pe_int)))
      (pss_cons (ps_for PassesOwn.never rfl (pi_list (pv 0)) (pg_name (i := 3) scWell.nd rfl (Or.inl rfl))
        (pss_one (ps_set (i := 2) scWell.nd rfl (Or.inl rfl) (pe_op op_add (pe_op op_mod (pe_callTy call_int1 (by rfl) T.int (by decide +kernel) (pa_cons (pe_op op_powB (pe_op op_add (pe_op op_add (pe_op op_mulB (pv 2) pe_int) (pe_op op_mulB (pv 3) (pv 3))) pe_int) pe_int) pa_nil)) pe_int) pe_int))))
      (pss_cons (ps_set (i := 4) scWell.nd rfl (Or.inl rfl) (pe_ifExp (PW.pt (pw_and (pt_cmpR op_lt (pv 1) (pe_callB call_len_seq (by rfl) T.len PySem.boot_len (pa_cons (pv 0) pa_nil)) (nomark _))
          (pw_and1 (pt_cmpR op_ge (pe_ix ix_list (pv 0) (pv 1) (fun _ _ => rfl)) (pe_op op_pow pe_int pe_int) (nomark _)))))
          (pe_op op_sub (pe_ix ix_list (pv 0) (pv 1) (fun _ _ => rfl)) (pe_op op_pow pe_int pe_int)) pe_int))
      (pss_one (ps_ret (pe_disp (pps_cons pe_str (pv 4) (pps_cons pe_str (pv 2) pps_nil)) (by rfl) (by rfl) (fun z => by cases z) (by decide)))))), ?_⟩
    refine ⟨_, rfl, _, _, rfl, rfl, .inr ⟨by decide, by decide⟩, _, _, rfl, rfl, ?_⟩
    refine ⟨_, rfl, a, rfl, ⟨_, hS⟩, for_list (K := K) (a := a) (xs := ns.map V.int) (fun i σ H2 => H2 = H ∧ ∃ (m : Int) (u : Option V), σ = [some (.ref a), some (.int j), some (.int m), u, none] ∧ 0 ≤ m ∧ m < 2 ^ 40)
      ⟨rfl, _, none, rfl, by omega, by omega⟩ (fun i σ H2 _ h => by rw [h.1]; exact hS) ?_ ?_⟩
    · rintro i y σ H2 hi ⟨rfl, m, u, rfl, h0, h1⟩
      obtain ⟨z, hz, rfl⟩ := list_get hi
      have bz := hb z (List.mem_of_getElem? hz)
      have hm := mul_small (c := 70019) h0 h1 (by decide) (by decide)
      have hw := sq_wide (of_bits bz) hm hB
      have hbw := bits_of hw
      refine ⟨_, rfl, _, _, rfl, rfl, ?_, _, rfl, _, rfl, _, _, rfl, rfl, ?_, _, _, rfl, rfl, _, _, rfl, rfl, _, _, rfl, rfl, ?_, .inl ⟨_, rfl, _, _, rfl, rfl, (show (0 : Int) < 2147483489 by decide), _, _, rfl, rfl, ?_⟩⟩
      · have := bits_small h0 h1
        show Builtin.Int.intBits m + Builtin.Int.intBits 70019 ≤ 2 ^ 27
        have e : Builtin.Int.intBits 70019 ≤ 17 := by decide +kernel
        omega
      · show Builtin.Int.intBits z + Builtin.Int.intBits z ≤ 2 ^ 27
        omega
      · refine ⟨by decide, ?_⟩
        omega
      · refine ⟨rfl, _, _, rfl, ?_, ?_⟩
        · have := Int.emod_nonneg ((m * 70019 + z * z + 59) ^ (2 : Int).toNat) (show (2147483489 : Int) ≠ 0 by decide)
          omega
        · have := Int.emod_lt_of_pos ((m * 70019 + z * z + 59) ^ (2 : Int).toNat) (show (0 : Int) < 2147483489 by decide)
          omega
    · rintro σ H2 ⟨rfl, m, u, rfl, h0, h1⟩
      have last : ∀ dg : Int, 0 ≤ dg → tDisp [((fun σ H Q => Q (V.str "digits") H : TE), (tVar 4 : TE)), ((fun σ H Q => Q (V.str "mixed") H : TE), (tVar 2 : TE))] [some (.ref a), some (.int j), some (.int m), u, some (.int dg)] H2 Q := fun dg hd => by
        intro p hp
        refine ⟨_, rfl, _, rfl, upd_same, [(kd, V.int dg), (km, V.int m)], rfl, (show 2 ≤ 15 by decide), ?_⟩
        refine q p _ hp ⟨dg, m, by rw [upd_same, merge_well], hd, h0, h1⟩ fun b o e => ?_
        rw [upd_ne (ne_of_none e hp), upd_ne (ne_of_none e hp)]
        exact e
      refine ⟨_, rfl, _, rfl, a, _, rfl, .inl hS, _, _, rfl, rfl, _, rfl, ?_⟩
      by_cases hjl : j < (((ns.map V.int).length : Nat) : Int)
      · rw [decide_eq_true hjl]
        rw [List.length_map] at hjl
        obtain ⟨z, hz⟩ : ∃ z, ns[j.toNat]? = some z := ⟨ns[j.toNat]'(by omega), List.getElem?_eq_getElem _⟩
        have hat : atI (ns.map V.int) j = some (.int z) := at_of (j := j.toNat) (by omega) (by rw [List.getElem?_map, hz]; rfl)
        have cp : CPow 10 18 := ⟨by decide, by decide, by decide⟩
        refine iteT ⟨_, rfl, _, rfl, a, _, _, _, rfl, rfl, hS, hat, _, _, rfl, rfl, cp, _, _, rfl, rfl, _, rfl, ?_⟩
        by_cases hz2 : (10 : Int) ^ (18 : Int).toNat ≤ z
        · rw [decide_eq_true hz2]
          exact iteT ⟨_, rfl, _, rfl, a, _, _, _, rfl, rfl, hS, hat, _, _, rfl, rfl, cp, _, _, rfl, rfl, last _ (by omega)⟩
        · rw [decide_eq_false hz2]
          exact iteF (last 0 (by decide))
      · rw [decide_eq_false hjl]
        exact iteF (last 0 (by decide))
def spDraw : Sp := fun vs H Q _ => ∃ (wa : Addr) (n : Int), vs = [.ref wa, .int n] ∧ Well H wa ∧ 0 < n ∧ n < 1073741824 ∧ ∀ (k : Int) H', 0 ≤ k → k < n → Well H' wa → Sb wa H H' → Q (.int k) H'
theorem scDraw : FnScope ["_law_well_here", "_law_many", "_law_found"] ["_law_well_here", "_law_many"] (defScope sDraw) := ⟨rfl, rfl, rfl, by decide +kernel, rfl, by decide +kernel, by decide +kernel⟩
theorem ok_draw (Fd : Fun K "_law_draw" "_law_draw" sDraw f fd) (T : Tx mg) : FnOk P w K mg base CX0 1 f fd ["_law_well_here", "_law_many"] spDraw := by
  refine Fd.ok scDraw (fun vs H Q E h => ?_) (fun cdv A outer s H vs Q E hr h => ?_)
  · obtain ⟨wa, n, rfl, _⟩ := h
    rfl
  · obtain ⟨wa, n, rfl, ⟨d, m, hw, hd, hm0, hm1⟩, hn0, hn1, q⟩ := h
    have hu := hu_of hr
    refine ⟨_, pss_cons (ps_if (pt_cmpR op_ge (pe_dget hu (pv 0) pe_str (fun _ _ => rfl)) (pv 1) (nomark _))
        (pss_cons (ps_set (i := 2) scDraw.nd rfl (Or.inl rfl) (pe_op op_mod (pe_callTy call_int1 (by rfl) T.int (by decide +kernel) (pa_cons (pe_dget hu (pv 0) pe_str (fun _ _ => rfl)) pa_nil)) (pv 1)))
        (pss_cons (ps_dput hu (pv 0) pe_str (pe_op op_fdiv (pe_dget hu (pv 0) pe_str (fun _ _ => rfl)) (pv 1)) rfl)
        (pss_one (ps_ret (pv 2))))) pss_nil)
      (pss_cons (ps_dput hu (pv 0) pe_str (pe_op op_mod (pe_callTy call_int1 (by rfl) T.int (by decide +kernel) (pa_cons (pe_op op_add (pe_op op_mul (pe_dget hu (pv 0) pe_str (fun _ _ => rfl)) pe_int) pe_int) pa_nil)) pe_int) rfl)
      (pss_one (ps_ret (pe_op op_mod (pe_op op_fdiv (pe_op op_mod (pe_callTy call_int1 (by rfl) T.int (by decide +kernel) (pa_cons (pe_op op_pow (pe_op op_mod (pe_callTy call_int1 (by rfl) T.int (by decide +kernel) (pa_cons (pe_op op_pow (pe_dget hu (pv 0) pe_str (fun _ _ => rfl)) pe_int) pa_nil)) pe_int) pe_int) pa_nil)) pe_int) pe_int) (pv 1))))), ?_⟩
    have gd : ∀ {H2 : Hp} {d m : Int}, H2 wa = some (.dK (wellKv d m)) → DGet H2 wa (.str "digits") (some (.int d)) := fun {H2 d m} h => by
      have z := DGet.k (k := kd) h
      rw [well_dig] at z
      exact z
    have gm : ∀ {H2 : Hp} {d m : Int}, H2 wa = some (.dK (wellKv d m)) → DGet H2 wa (.str "mixed") (some (.int m)) := fun {H2 d m} h => by
      have z := DGet.k (k := km) h
      rw [well_mix] at z
      exact z
    refine ⟨_, rfl, wa, _, rfl, gd hw, _, rfl, _, _, rfl, rfl, _, rfl, ?_⟩
    by_cases hdn : n ≤ d
    · rw [decide_eq_true hdn]
      refine iteT ⟨_, rfl, wa, _, rfl, gd hw, .inl ⟨_, rfl, _, rfl, _, _, rfl, rfl, hn0, ?_⟩⟩
      refine ⟨_, rfl, wa, _, rfl, gd hw, _, rfl, _, _, rfl, rfl, ⟨hn0, hn1⟩, _, rfl, wa, _, rfl, DPut.k (k := kd) hw (show 2 < sizeLine by decide), _, rfl, ?_⟩
      rw [put_dig]
      exact q _ _ (Int.emod_nonneg _ (by omega)) (Int.emod_lt_of_pos _ hn0) ⟨_, m, upd_same, Int.ediv_nonneg hd (by omega), hm0, hm1⟩ (.put wa H _)
    · rw [decide_eq_false hdn]
      have m0 := Int.emod_nonneg (m * 44111 + 5903) (show (2147483647 : Int) ≠ 0 by decide)
      have m1 := Int.emod_lt_of_pos (m * 44111 + 5903) (show (0 : Int) < 2147483647 by decide)
      refine iteF ⟨_, rfl, wa, _, rfl, gm hw, _, _, rfl, rfl, .inr ⟨by decide, by decide⟩, _, _, rfl, rfl, .inl ⟨_, rfl, _, _, rfl, rfl, (show (0 : Int) < 2147483647 by decide), _, rfl, wa, _, rfl, DPut.k (k := km) hw (show 2 < sizeLine by decide), ?_⟩⟩
      rw [put_mix]
      generalize (m * 44111 + 5903) % 2147483647 = m' at m0 m1
      have n0 := Int.emod_nonneg (m' ^ (2 : Int).toNat) (show (2147483549 : Int) ≠ 0 by decide)
      have n1 := Int.emod_lt_of_pos (m' ^ (2 : Int).toNat) (show (0 : Int) < 2147483549 by decide)
      refine ⟨_, rfl, wa, _, rfl, gm upd_same, _, _, rfl, rfl, ⟨by decide, by decide, by omega⟩, .inl ⟨_, rfl, _, _, rfl, rfl, (show (0 : Int) < 2147483549 by decide), ?_⟩⟩
      generalize m' ^ (2 : Int).toNat % 2147483549 = k at n0 n1
      refine ⟨_, _, rfl, rfl, ⟨by decide, by decide, by omega⟩, .inl ⟨_, rfl, _, _, rfl, rfl, (show (0 : Int) < 1000000021 by decide), _, _, rfl, rfl, ⟨by decide, by decide⟩, _, rfl, _, _, rfl, rfl, hn0, ?_⟩⟩
      exact q _ _ (Int.emod_nonneg _ (by omega)) (Int.emod_lt_of_pos _ hn0) ⟨d, m', upd_same, hd, m0, by omega⟩ (.put wa H _)
def spChoose (K : PySem.W.Frag) : Sp := fun vs H Q _ => ∃ (wa la : Addr) (xs : List V), vs = [.ref wa, .ref la] ∧ Well H wa ∧ SqL K H la xs ∧ xs ≠ [] ∧ xs.length ≤ 1000 ∧ ∀ v H', v ∈ xs → Well H' wa → Sb wa H H' → Q v H'
theorem scChoose : FnScope ["_law_well_here", "_law_things"] ["_law_well_here", "_law_things"] (defScope sChoose) := ⟨rfl, rfl, rfl, by decide +kernel, rfl, by decide +kernel, by decide +kernel⟩
theorem ok_choose (Fd : Fun K "_law_choose" "_law_choose" sChoose f fd) (T : Tx mg) (D : Df P w K mg base 1 "_law_draw" ["_law_well_here", "_law_many"] spDraw) : FnOk P w K mg base CX0 2 f fd ["_law_well_here", "_law_things"] (spChoose K) := by
  refine Fd.ok scChoose (fun vs H Q E h => ?_) (fun cdv A outer s H vs Q E hr h => ?_)
  · obtain ⟨wa, la, xs, rfl, _⟩ := h
    rfl
  · obtain ⟨wa, la, xs, rfl, hw, hS, hne, hlen, q⟩ := h
    refine ⟨_, pss_one (ps_ret (pe_ix ix_list (pv 1) (pe_df D hr (pa_cons (pv 0) (pa_cons (pe_callB call_len_seq (by rfl) T.len PySem.boot_len (pa_cons (pv 1) pa_nil)) pa_nil))) (fun _ _ => rfl))), ?_⟩
    have hl : 0 < xs.length := List.length_pos_iff.mpr hne
    refine ⟨_, rfl, _, rfl, _, rfl, la, xs, rfl, .inl hS, wa, _, rfl, hw, by omega, by omega, fun k H' h0 h1 W' s' => ?_⟩
    obtain ⟨v, hv⟩ : ∃ v, xs[k.toNat]? = some v := ⟨xs[k.toNat]'(by omega), List.getElem?_eq_getElem _⟩
    exact ⟨la, xs, _, v, rfl, rfl, seqL hw s' hS, at_of (j := k.toNat) (by omega) hv, q v H' (List.mem_of_getElem? hv) W' s'⟩
end
end K4
namespace K4
open PySem L2 Ld
abbrev sWordDue : Stmt := top 30
abbrev sPlaceDue : Stmt := top 31
abbrev sAnswerDue : Stmt := top 32
abbrev sDue : Stmt := top 33
section
variable {P : Program} {w : World} {K : PySem.W.Frag} {mg : Str → Option Value} {base : Heap} {f : Addr} {fd : FuncData}
def spWordDue (K : PySem.W.Frag) : Sp := fun vs H Q _ => ∃ (v : V) (d : PyData), vs = [v] ∧ Dd K H v d ∧ FitS d ∧ ∀ H', Same H H' → Q (.bl (wordD d)) H'
theorem scWD : FnScope ["_law_thing", "_law_sign"] ["_law_thing"] (defScope sWordDue) := ⟨rfl, rfl, rfl, by decide +kernel, rfl, by decide +kernel, by decide +kernel⟩
theorem cps_a : ("a" : Str).cps.toList = [97] := by decide +kernel
theorem cps_z : ("z" : Str).cps.toList = [122] := by decide +kernel
theorem le_a (c : Nat) : (!decide ((⟨#[c]⟩ : Str).cps.toList < ("a" : Str).cps.toList)) = decide (97 ≤ c) := by
  rw [cps_a]
  show (!decide ([c] < [97])) = _
  rw [one_lt]
  by_cases h : 97 ≤ c
  · rw [decide_eq_true h, decide_eq_false (by omega)]
    rfl
  · rw [decide_eq_false h, decide_eq_true (by omega)]
    rfl
theorem le_z (c : Nat) : (!decide (("z" : Str).cps.toList < (⟨#[c]⟩ : Str).cps.toList)) = decide (c ≤ 122) := by
  rw [cps_z]
  show (!decide ([122] < [c])) = _
  rw [one_lt]
  by_cases h : c ≤ 122
  · rw [decide_eq_true h, decide_eq_false (by omega)]
    rfl
  · rw [decide_eq_false h, decide_eq_true (by omega)]
    rfl
theorem all_snoc {l : List Nat} {i c : Nat} (p : Nat → Bool) (h : l[i]? = some c) : (l.take (i + 1)).all p = ((l.take i).all p && p c) := by
  rw [List.take_succ, h]
  simp
theorem dp_signs : ∀ cs : List Nat, DpAll K H (cs.map fun c => V.str ⟨#[c]⟩) (cs.map fun c => PyData.str ⟨#[c]⟩)
  | [] => .nil
  | c :: cs => .cons (.str _) (dp_signs cs)
theorem lay_signs : ∀ cs : List Nat, (∀ c ∈ cs, c < 128) → PyData.canLayAll0 (cs.map fun c => PyData.str ⟨#[c]⟩) = true
  | [], _ => rfl
  | c :: cs, h => by
    have h1 := h c List.mem_cons_self
    have h2 := lay_signs cs fun x hx => h x (List.mem_cons_of_mem _ hx)
    simp only [List.map_cons, PyData.canLayAll0, PyData.canLay0, h2, Bool.and_true]
    unfold PyData.strOk
    simp
    omega
theorem depth_signs : ∀ cs : List Nat, PyData.depthAll (cs.map fun c => PyData.str ⟨#[c]⟩) = 0
  | [] => rfl
  | c :: cs => by simp [PyData.depthAll, PyData.depth, depth_signs cs]
theorem shaped_signs {cs : List Nat} (h : ∀ c ∈ cs, c < 128) : SeqAt.shaped (.list (cs.map fun c => PyData.str ⟨#[c]⟩)) = true := by
  unfold SeqAt.shaped
  simp only [PyData.canLay0, lay_signs cs h, PyData.depth, depth_signs]
  decide
theorem ok_wordDue (Fd : Fun K "_law_word_due" "_law_word_due" sWordDue f fd) (T : Tx mg) : FnOk P w K mg base CX0 1 f fd ["_law_thing"] (spWordDue K) := by
  refine Fd.ok scWD (fun vs H Q E h => ?_) (fun cdv A outer s H vs Q E hr h => ?_)
  · obtain ⟨v, d, rfl, _⟩ := h
    rfl
  · obtain ⟨v, d, rfl, hT, hf, q⟩ := h
    refine ⟨_, pss_cons (ps_if (PW.pt (pw_or (pt_not (pt_val (pe_callB (call_isa "str") (by rfl) T.isi bootN (pa_cons (pv 0) (pa_cons (pe_bltn (v := .ty "str") (by rfl) T.str (by decide +kernel) rfl) pa_nil)))))
        (pw_or1 (pt_not (pt_chain op_le op_le pe_int (pe_callB call_len_str (by rfl) T.len PySem.boot_len (pa_cons (pv 0) pa_nil)) pe_int)))))
        (pss_one (ps_ret pe_bl)) pss_nil)
      (pss_one (ps_ret (pe_cmpR (op_eqD hr.units) (pe_lc (own := [("_law_sign", 1)]) (g := gName 1) (by rfl) scWD.nd (pi_str (pv 0)) (blkOk_by (own := [("_law_sign", 1)]) (N := ["_law_thing", "_law_sign"]) (sc := defScope sWordDue) (by decide +kernel))
        (fun _ _ _ _ _ => pg_name (i := 1) scWD.nd rfl (Or.inl rfl)) (fun _ _ _ _ _ => pts_one (pt_not (pt_chain op_le_str op_le_str pe_str (pv 1) pe_str))) (fun _ _ _ _ _ => pv 1)) (pe_lst pa_nil) (nomark _)))), ?_⟩
    refine ⟨_, rfl, _, rfl, _, _, hT.ty, kit_str d, _, rfl, ?_⟩
    cases d with
    | str z =>
      have e := hT.str_v
      subst e
      have hA : Asc z := hf z rfl
      refine iteF ⟨_, rfl, _, rfl, hA.size, _, _, rfl, rfl, _, rfl, ?_⟩
      have bad : (decide (1 ≤ z.length) && decide (z.length ≤ 12)) = false → wordD (.str z) = false := fun e => by
        show wordS z = false
        unfold wordS
        rw [e, Bool.false_and]
      by_cases h1 : (1 : Int) ≤ (z.length : Int)
      · rw [decide_eq_true h1]
        refine iteT ⟨_, _, rfl, rfl, _, rfl, ?_⟩
        by_cases h2 : (z.length : Int) ≤ 12
        · rw [decide_eq_true h2]
          refine iteF ⟨_, rfl, z, rfl, ?_⟩
          intro D hD
          refine lc_str (fun i H2 => ∃ cs : List Nat, Same H H2 ∧ H2 D = some (.lst (cs.map fun c => V.str ⟨#[c]⟩)) ∧ cs.length ≤ i ∧ (∀ c ∈ cs, c < 128) ∧ cs.isEmpty = (z.cps.toList.take i).all low) ⟨[], Same.new hD, upd_same, Nat.le_refl _, (fun c hc => nomatch hc), by simp⟩ ?_ ?_
          · rintro i c H2 hc ⟨cs, s2, hl, hn, h128, he⟩
            have hc2 : z.cps.toList[i]? = some c := by simpa using hc
            have c128 : c < 128 := hA.2 c (List.mem_of_getElem? hc2)
            have hi : i < z.length := by
              have := (List.getElem?_eq_some_iff.mp hc2).1
              simpa [Str.length] using this
            refine ⟨rfl, ?_⟩
            have keep : low c = true → ∃ cs : List Nat, Same H H2 ∧ H2 D = some (.lst (cs.map fun c => V.str ⟨#[c]⟩)) ∧ cs.length ≤ i + 1 ∧ (∀ c ∈ cs, c < 128) ∧ cs.isEmpty = (z.cps.toList.take (i + 1)).all low := fun e =>
              ⟨cs, s2, hl, by omega, h128, by rw [all_snoc low hc2, ← he, e, Bool.and_true]⟩
            have more : low c = false → ∃ acc, H2 D = some (.lst acc) ∧ acc.length < sizeLine ∧ ∃ cs : List Nat, Same H (upd H2 D (.lst (acc ++ [V.str ⟨#[c]⟩]))) ∧
                (upd H2 D (.lst (acc ++ [V.str ⟨#[c]⟩]))) D = some (.lst (cs.map fun c => V.str ⟨#[c]⟩)) ∧ cs.length ≤ i + 1 ∧ (∀ c ∈ cs, c < 128) ∧ cs.isEmpty = (z.cps.toList.take (i + 1)).all low := fun e => by
              refine ⟨_, hl, by rw [List.length_map]; exact Nat.lt_of_le_of_lt (Nat.le_trans hn (by have := hA.1; omega)) (show 100 < sizeLine by decide), cs ++ [c], fun b o eb => ?_, ?_, by simp; omega, fun x hx => ?_, ?_⟩
              · rw [upd_ne (ne_of_none eb hD)]
                exact s2 b o eb
              · rw [upd_same, List.map_append]
                rfl
              · rcases List.mem_append.mp hx with g | g
                · exact h128 x g
                · rw [List.mem_singleton.mp g]
                  exact c128
              · rw [all_snoc low hc2, e, Bool.and_false]
                simp
            refine ⟨_, rfl, _, _, rfl, rfl, _, rfl, ?_⟩
            rw [le_a]
            by_cases g1 : 97 ≤ c
            · rw [decide_eq_true g1]
              refine iteT ⟨_, _, rfl, rfl, _, rfl, ?_⟩
              rw [le_z]
              by_cases g2 : c ≤ 122
              · rw [decide_eq_true g2]
                exact iteF (keep (by simp [low, g1, g2]))
              · rw [decide_eq_false g2]
                exact iteT ⟨_, rfl, more (by simp [low, g2])⟩
            · rw [decide_eq_false g1]
              exact iteF ⟨_, rfl, iteT ⟨_, rfl, more (by simp [low, g1])⟩⟩
          · rintro H2 ⟨cs, s2, hl, hn, h128, he⟩
            refine ⟨by decide, fun p hp => ?_⟩
            have ne : D ≠ p := ne_of_none hl hp
            refine ⟨.list (cs.map fun c => PyData.str ⟨#[c]⟩), .list [], .lst (.of (by rw [upd_ne ne]; exact hl)) (dp_signs cs), .lst (.of upd_same) .nil, shaped_signs h128, by decide, ?_⟩
            rw [eqv_nil_tuple]
            have e1 : (cs.map fun c => PyData.str ⟨#[c]⟩).isEmpty = wordD (.str z) := by
              rw [List.isEmpty_map, he]
              have e2 : z.cps.toList.take z.cps.size = z.cps.toList := by
                rw [← Array.length_toList, List.take_length]
              rw [e2]
              show lows z = wordS z
              unfold wordS
              rw [decide_eq_true (show 1 ≤ z.length by omega), decide_eq_true (show z.length ≤ 12 by omega)]
              rfl
            rw [e1]
            exact q _ fun b o eb => by
              rw [upd_ne (ne_of_none (s2 b o eb) hp)]
              exact s2 b o eb
        · rw [decide_eq_false h2]
          rw [bad (by rw [decide_eq_false (show ¬ z.length ≤ 12 by omega), Bool.and_false])] at q
          exact iteT (q H (Same.refl H))
      · rw [decide_eq_false h1]
        rw [bad (by rw [decide_eq_false (show ¬ 1 ≤ z.length by omega), Bool.false_and])] at q
        exact iteF ⟨_, rfl, iteT (q H (Same.refl H))⟩
    | _ => exact iteT (q H (Same.refl H))
def spPlaceDue (K : PySem.W.Frag) : Sp := fun vs H Q _ => ∃ (v : V) (d : PyData), vs = [v] ∧ Dd K H v d ∧ Fits d ∧ ∀ H', Same H H' → Q (.bl (placeD d)) H'
theorem scPD : FnScope ["_law_thing", "_law_word"] ["_law_thing"] (defScope sPlaceDue) := ⟨rfl, rfl, rfl, by decide +kernel, rfl, by decide +kernel, by decide +kernel⟩
theorem ok_placeDue (Fd : Fun K "_law_place_due" "_law_place_due" sPlaceDue f fd) (T : Tx mg) (D : Df P w K mg base 1 "_law_word_due" ["_law_thing"] (spWordDue K)) : FnOk P w K mg base CX0 2 f fd ["_law_thing"] (spPlaceDue K) := by
  refine Fd.ok scPD (fun vs H Q E h => ?_) (fun cdv A outer s H vs Q E hr h => ?_)
  · obtain ⟨v, d, rfl, _⟩ := h
    rfl
  · obtain ⟨v, d, rfl, hT, hf, q⟩ := h
    refine ⟨_, pss_cons (ps_if (PW.pt (pw_or (pt_not (pt_val (pe_callB (call_isa "tuple") (by rfl) T.isi bootN (pa_cons (pv 0) (pa_cons (pe_bltn (v := .ty "tuple") (by rfl) T.tuple (by decide +kernel) rfl) pa_nil)))))
        (pw_or1 (pt_cmpR op_gt (pe_callB call_len_seq (by rfl) T.len PySem.boot_len (pa_cons (pv 0) pa_nil)) pe_int (nomark _))))) (pss_one (ps_ret pe_bl)) pss_nil)
      (pss_one (ps_ret (pe_cmpR (op_eq0 hr.units) (pe_lc (own := [("_law_word", 1)]) (g := gName 1) (by rfl) scPD.nd (pi_tup (pv 0)) (blkOk_by (own := [("_law_word", 1)]) (N := ["_law_thing", "_law_word"]) (sc := defScope sPlaceDue) (by decide +kernel))
        (fun _ _ _ _ _ => pg_name (i := 1) scPD.nd rfl (Or.inl rfl)) (fun _ _ _ _ _ => pts_one (pt_not (pt_val (pe_df D hr (pa_cons (pv 1) pa_nil))))) (fun _ _ _ _ _ => pv 1)) (pe_lst pa_nil) (nomark _)))), ?_⟩
    refine ⟨_, rfl, _, rfl, _, _, hT.ty, kit_tuple d, _, rfl, ?_⟩
    cases d with
    | tuple ds =>
      obtain ⟨a, xs, rfl, hs, hl, hi⟩ := hT.its
      refine iteF ⟨_, rfl, a, xs, rfl, .inr hs, _, _, rfl, rfl, _, rfl, ?_⟩
      have e0 : placeD (.tuple ds) = (decide (ds.length ≤ 4) && ds.all wordD) := rfl
      by_cases h4 : ds.length ≤ 4
      · rw [decide_eq_false (by omega)]
        refine iteF ⟨_, rfl, a, rfl, ⟨_, hs⟩, ?_⟩
        intro D hD
        refine lc_tup (K := K) (a := a) (xs := xs) (fun i H2 => ∃ ys : List V, Same H H2 ∧ H2 D = some (.lst ys) ∧ ys.length ≤ i ∧ ys.isEmpty = (ds.take i).all wordD) ⟨[], Same.new hD, upd_same, Nat.le_refl _, by simp⟩ (fun i H2 _ ⟨_, s2, _⟩ => same_T s2 hs) ?_ ?_
        · rintro i x H2 hx ⟨ys, s2, hy, hn, he⟩
          obtain ⟨d, h1, h2⟩ := hi i x hx
          refine ⟨rfl, ?_⟩
          refine ⟨_, rfl, x, d, rfl, h2.same s2, (hf.2 ds rfl).2 d (List.mem_of_getElem? h1), fun H3 s3 => ⟨_, rfl, ?_⟩⟩
          cases e : wordD d with
          | true =>
            refine iteF ⟨ys, s2.trans s3, s3 _ _ hy, by omega, ?_⟩
            rw [all_take h1, ← he, e, Bool.and_true]
          | false =>
            have hxs : xs.length ≤ 10000 := by rw [hl]; exact (hf.2 ds rfl).1
            have hil : i < xs.length := (List.getElem?_eq_some_iff.mp hx).1
            refine iteT ⟨x, rfl, ys, s3 _ _ hy, Nat.lt_of_lt_of_le (Nat.lt_of_le_of_lt hn hil) (Nat.le_trans hxs (show 10000 ≤ sizeLine by decide)), ys ++ [x], fun b o eb => ?_, upd_same, by simp; omega, ?_⟩
            · rw [upd_ne (ne_of_none eb hD)]
              exact s3 _ _ (s2 b o eb)
            · rw [all_take h1, e, Bool.and_false]
              simp
        · rintro H2 ⟨ys, s2, hy, hn, he⟩
          refine ⟨by decide, fun p hp => ?_⟩
          have ne : D ≠ p := ne_of_none hy hp
          refine ⟨D, p, ys, rfl, rfl, by rw [upd_ne ne]; exact hy, upd_same, ?_⟩
          have e1 : ys.isEmpty = placeD (.tuple ds) := by
            rw [he, hl, List.take_length, e0, decide_eq_true h4, Bool.true_and]
          rw [e1]
          exact q _ fun b o eb => by
            rw [upd_ne (ne_of_none (s2 b o eb) hp)]
            exact s2 b o eb
      · rw [decide_eq_true (by omega)]
        rw [e0, decide_eq_false h4, Bool.false_and] at q
        exact iteT (q H (Same.refl H))
    | _ => exact iteT (q H (Same.refl H))
end
end K4
namespace K4
open PySem L2 Ld
abbrev sRule : Stmt := top 18
abbrev sAnswer : Stmt := top 19
/-! ### what is a rule, over data -/
mutual
/-- all texts are short and plain, all tuples short -/
def fitB : PyData → Bool
  | .str z => ascB z
  | .tuple ds => decide (ds.length ≤ 1000) && fitAll ds
  | .list ds => fitAll ds
  | _ => true
def fitAll : List PyData → Bool
  | [] => true
  | d :: ds => fitB d && fitAll ds
end
theorem fitAll_mem : ∀ {ds : List PyData}, fitAll ds = true → ∀ d ∈ ds, fitB d = true
  | [], _, d, h => nomatch h
  | e :: ds, z, d, h => by
    have z2 := Bool.and_eq_true_iff.mp (show (fitB e && fitAll ds) = true from z)
    rcases List.mem_cons.mp h with h | h
    · rw [h]
      exact z2.1
    · exact fitAll_mem z2.2 d h
theorem fitS_of {d : PyData} (h : fitB d = true) : FitS d := fun z e => by
  subst e
  exact asc_of h
theorem fits_of {d : PyData} (h : fitB d = true) : Fits d := ⟨fitS_of h, fun ds e => by
  subst e
  have z := Bool.and_eq_true_iff.mp (show (decide (ds.length ≤ 1000) && fitAll ds) = true from h)
  exact ⟨Nat.le_trans (of_decide_eq_true z.1) (by decide), fun e he => fitS_of (fitAll_mem z.2 e he)⟩⟩
theorem fit_mem {ds : List PyData} (h : fitB (.tuple ds) = true) : ∀ d ∈ ds, fitB d = true := fitAll_mem (Bool.and_eq_true_iff.mp (show (decide (ds.length ≤ 1000) && fitAll ds) = true from h)).2
def toD : List PyData → Bool
  | [p, n] => placeD p && numD 10000 n
  | _ => false
def ownD : List PyData → Bool
  | [x] => wordD x
  | _ => false
def answerD (own : Str) : PyData → Bool
  | .tuple (k :: r) => if txtD k "gone" = true then r.isEmpty else if txtD k "to" = true then toD r else txtD k own && ownD r
  | _ => false
theorem answerD_cons (own : Str) (k : PyData) (r : List PyData) : answerD own (.tuple (k :: r)) = if txtD k "gone" = true then r.isEmpty else if txtD k "to" = true then toD r else txtD k own && ownD r := rfl
def ruleT (s p a : PyData) : Bool := match s with
  | .str z => (decide (z = "exact") && (placeD p && answerD "page" a)) || (decide (z = "open") && (placeD p && answerD "section" a))
  | _ => false
def ruleL : List PyData → Bool
  | [s, p, a] => ruleT s p a
  | _ => false
def ruleD : PyData → Bool
  | .tuple ds => ruleL ds
  | _ => false
section
variable {P : Program} {w : World} {K : PySem.W.Frag} {mg : Str → Option Value} {base : Heap} {f : Addr} {fd : FuncData}
def spAnswer (K : PySem.W.Frag) : Sp := fun vs H Q _ => ∃ (v : V) (d : PyData) (own : Str), vs = [v, .str own] ∧ Dd K H v d ∧ fitB d = true ∧ Q (.bl (answerD own d)) H
theorem scAn : FnScope ["value", "own_kind", "kind"] ["value", "own_kind"] (defScope sAnswer) := ⟨rfl, rfl, rfl, by decide +kernel, rfl, by decide +kernel, by decide +kernel⟩
theorem at0 {x : V} {xs : List V} : atI (x :: xs) 0 = some x := at_of (j := 0) rfl rfl
theorem at1 {x y : V} {xs : List V} : atI (x :: y :: xs) 1 = some y := at_of (j := 1) rfl rfl
theorem at2 {x y z : V} {xs : List V} : atI (x :: y :: z :: xs) 2 = some z := at_of (j := 2) rfl rfl
theorem len_is {xs : List V} {n : Nat} : decide (V.int (xs.length : Int) = V.int (n : Int)) = decide (xs.length = n) := by
  by_cases h : xs.length = n
  · rw [h]
    simp
  · rw [decide_eq_false h, decide_eq_false (fun e => h (by injection e with e; omega))]
theorem ok_answer (Fd : Fun K "_is_answer" "_is_answer" sAnswer f fd) (T : Tx mg) (DN : Df P w K mg base 1 "is_number_to" ["value", "highest"] (spNum K)) (DW : Df P w K mg base 1 "is_word" ["value"] (spWord K)) (DP : Df P w K mg base 3 "is_place" ["value"] (spPlace K)) :
    FnOk P w K mg base CX0 4 f fd ["value", "own_kind"] (spAnswer K) := by
  refine Fd.ok scAn (fun vs H Q E h => ?_) (fun cdv A outer s H vs Q E hr h => ?_)
  · obtain ⟨v, d, own, rfl, _⟩ := h
    rfl
  · obtain ⟨v, d, own, rfl, hT, hf, q⟩ := h
    obtain ⟨t, hl⟩ := T.md
    have hu := Nat.lt_of_le_of_lt (Nat.le_add_right _ 64) hr.units
    refine ⟨_, pss_cons (ps_if (PW.pt (pw_or (pt_not (pt_val (pe_callB (call_isa "tuple") (by rfl) T.isi bootN (pa_cons (pv 0) (pa_cons (pe_bltn (v := .ty "tuple") (by rfl) T.tuple (by decide +kernel) rfl) pa_nil)))))
        (pw_or1 (pt_not (pt_truth (pv 0) (fun _ => rfl)))))) (pss_one (ps_ret pe_bl)) pss_nil)
      (pss_cons (ps_set (i := 2) scAn.nd rfl (Or.inl rfl) (pe_ix ix_tup (pv 0) pe_int (fun _ _ => rfl)))
      (pss_cons (ps_if (pt_cmpR (op_eqTx hu) (pv 2) pe_str (nomark _)) (pss_one (ps_ret (pe_cmpR op_eq (pe_callB call_len_seq (by rfl) T.len PySem.boot_len (pa_cons (pv 0) pa_nil)) pe_int (nomark _)))) pss_nil)
      (pss_cons (ps_if (pt_cmpR (op_eqTx hu) (pv 2) pe_str (nomark _)) (pss_one (ps_ret (pe_and (pe_cmpR op_eq (pe_callB call_len_seq (by rfl) T.len PySem.boot_len (pa_cons (pv 0) pa_nil)) pe_int (nomark _))
          (pe_and (pe_df DP hr (pa_cons (pe_ix ix_tup (pv 0) pe_int (fun _ _ => rfl)) pa_nil)) (pe_one (pe_df DN hr (pa_cons (pe_ix ix_tup (pv 0) pe_int (fun _ _ => rfl)) (pa_cons (pe_glob (v := .int 10000) (by rfl) hl ⟨_, rfl⟩) pa_nil)))))))) pss_nil)
      (pss_one (ps_ret (pe_and (pe_cmpR (op_eqTx hu) (pv 2) (pv 1) (nomark _)) (pe_and (pe_cmpR op_eq (pe_callB call_len_seq (by rfl) T.len PySem.boot_len (pa_cons (pv 0) pa_nil)) pe_int (nomark _))
          (pe_one (pe_df DW hr (pa_cons (pe_ix ix_tup (pv 0) pe_int (fun _ _ => rfl)) pa_nil)))))))))), ?_⟩
    refine ⟨_, rfl, _, rfl, _, _, hT.ty, kit_tuple d, _, rfl, ?_⟩
    cases d with
    | tuple ds =>
      obtain ⟨a, xs, rfl, hs, hl2, hi⟩ := hT.its
      have hfm := fit_mem hf
      refine iteF ⟨_, rfl, _, .inr (.inl ⟨xs, hs, rfl⟩), ?_⟩
      cases ds with
      | nil =>
        have e := List.length_eq_zero_iff.mp hl2
        subst e
        exact iteT q
      | cons k r =>
        cases xs with
        | nil => cases hl2
        | cons x xr =>
          obtain ⟨d0, z0, D0⟩ := hi 0 x rfl
          cases z0
          refine iteF ⟨_, rfl, a, _, _, _, rfl, rfl, hs, at0, ?_⟩
          rw [answerD_cons] at q
          refine ⟨_, rfl, k, _, D0, rfl, _, rfl, ?_⟩
          by_cases g : txtD k "gone" = true
          · rw [if_pos g] at q
            rw [g]
            refine iteT ⟨_, rfl, a, _, rfl, .inr hs, rfl, ?_⟩
            show Q (.bl (decide (V.int ((x :: xr).length : Int) = V.int ((1 : Nat) : Int)))) H
            rw [len_is, hl2]
            cases r with
            | nil => exact q
            | cons _ _ => 
              rw [decide_eq_false (by simp)]
              exact q
          · rw [if_neg g] at q
            rw [Bool.eq_false_iff.mpr g]
            refine iteF ⟨_, rfl, k, _, D0, rfl, _, rfl, ?_⟩
            by_cases g2 : txtD k "to" = true
            · rw [if_pos g2] at q
              rw [g2]
              refine iteT ⟨_, rfl, a, _, rfl, .inr hs, rfl, _, rfl, ?_⟩
              show if (decide (V.int ((x :: xr).length : Int) = V.int ((3 : Nat) : Int))) = true then _ else _
              rw [len_is, hl2]
              have no : toD r = false → Q (.bl false) H := fun e => by
                rw [e] at q
                exact q
              match r, hl2, hi, hfm, q, no with
              | [], _, _, _, _, no => exact iteF (no rfl)
              | [p], _, _, _, _, no => exact iteF (no rfl)
              | [p, n], hl2, hi, hfm, q, _ =>
                match xr, hl2, hi with
                | [y, z], _, hi =>
                  obtain ⟨d1, z1, D1⟩ := hi 1 y rfl
                  cases z1
                  obtain ⟨d2, z2, D2⟩ := hi 2 z rfl
                  cases z2
                  refine iteT ⟨_, rfl, a, _, _, _, rfl, rfl, hs, at1, _, p, rfl, D1, fits_of (hfm _ (by simp)), _, rfl, ?_⟩
                  have q : Q (.bl (placeD p && numD 10000 n)) H := q
                  cases e : placeD p with
                  | false =>
                    rw [e] at q
                    exact iteF q
                  | true =>
                    rw [e] at q
                    exact iteT ⟨_, rfl, a, _, _, _, rfl, rfl, hs, at2, _, n, _, rfl, D2, q⟩
              | p :: n :: m :: r2, _, _, _, _, no =>
                rw [decide_eq_false (by simp)]
                exact iteF (no rfl)
            · rw [if_neg g2] at q
              rw [Bool.eq_false_iff.mpr g2]
              refine iteF ⟨_, rfl, _, rfl, k, _, D0, rfl, _, rfl, ?_⟩
              cases g3 : txtD k own with
              | false =>
                rw [g3] at q
                exact iteF q
              | true =>
                rw [g3] at q
                refine iteT ⟨_, rfl, a, _, rfl, .inr hs, rfl, _, rfl, ?_⟩
                show if (decide (V.int ((x :: xr).length : Int) = V.int ((2 : Nat) : Int))) = true then _ else _
                rw [len_is, hl2]
                have no : ownD r = false → Q (.bl false) H := fun e => by
                  rw [e] at q
                  exact q
                match r, hl2, hi, hfm, q, no with
                | [], _, _, _, _, no => exact iteF (no rfl)
                | [p], hl2, hi, hfm, q, _ =>
                  match xr, hl2, hi with
                  | [y], _, hi =>
                    obtain ⟨d1, z1, D1⟩ := hi 1 y rfl
                    cases z1
                    exact iteT ⟨_, rfl, a, _, _, _, rfl, rfl, hs, at1, _, p, rfl, D1, fitS_of (hfm _ (by simp)), q⟩
                | p :: n :: r2, _, _, _, _, no =>
                  rw [decide_eq_false (by simp)]
                  exact iteF (no rfl)
    | _ => exact iteT q
end
end K4
namespace K4
open PySem L2 Ld
/-- the two kinds, as the module holds them -/
structure Kinds (K : PySem.W.Frag) (w : World) (mg : Str → Option Value) (d : Addr) (es : Array DictEntry) (n : Nat) : Prop where
  at_ : mg "OWN_KINDS" = some (.ref d)
  kd : KDict K w d es n
  two : ∃ (e1 e2 : DictEntry) (t1 t2 u1 u2 : Tok), es.toList = [e1, e2] ∧ e1.key = .str "exact" t1 ∧ e1.val = .str "page" u1 ∧ e2.key = .str "open" t2 ∧ e2.val = .str "section" u2
theorem isStr_lit {x z : Str} {t : Tok} : (Value.str x t).isStr z = decide (z = x) := by
  show (x == z) = decide (z = x)
  by_cases h : z = x
  · subst h
    simp
  · rw [decide_eq_false h]
    exact beq_false_of_ne fun e => h e.symm
theorem open_exact : ¬ (("open" : Str) = "exact") := by decide +kernel
theorem exact_open : ¬ (("exact" : Str) = "open") := by decide +kernel
theorem ruleT_exact (p a : PyData) : ruleT (.str "exact") p a = (placeD p && answerD "page" a) := by
  show ((decide (("exact" : Str) = "exact") && (placeD p && answerD "page" a)) || (decide (("exact" : Str) = "open") && (placeD p && answerD "section" a))) = _
  rw [decide_eq_false exact_open, Bool.false_and, Bool.or_false, decide_eq_true rfl, Bool.true_and]
theorem ruleT_open (p a : PyData) : ruleT (.str "open") p a = (placeD p && answerD "section" a) := by
  show ((decide (("open" : Str) = "exact") && (placeD p && answerD "page" a)) || (decide (("open" : Str) = "open") && (placeD p && answerD "section" a))) = _
  rw [decide_eq_false open_exact, Bool.false_and, Bool.false_or, decide_eq_true rfl, Bool.true_and]
theorem ruleT_none {s : Str} (h1 : ¬ s = "exact") (h2 : ¬ s = "open") (p a : PyData) : ruleT (.str s) p a = false := by
  show ((decide (s = "exact") && (placeD p && answerD "page" a)) || (decide (s = "open") && (placeD p && answerD "section" a))) = _
  rw [decide_eq_false h1, decide_eq_false h2]
  rfl
theorem Kinds.get {K : PySem.W.Frag} {w : World} {mg : Str → Option Value} {d : Addr} {es : Array DictEntry} {n : Nat} (Z : Kinds K w mg d es n) : ∃ u1 u2 : Tok, ∀ z : Str, PySem.W.nsIn K d z = if z = "exact" then some (some (.str "page" u1)) else if z = "open" then some (some (.str "section" u2)) else some none := by
  obtain ⟨e1, e2, t1, t2, u1, u2, he, k1, v1, k2, v2⟩ := Z.two
  refine ⟨u1, u2, fun z => ?_⟩
  unfold PySem.W.nsIn
  rw [Z.kd.at_]
  dsimp only
  rw [he]
  have s1 : e1.key.isStr z = decide (z = "exact") := by
    rw [k1]
    exact isStr_lit
  have s2 : e2.key.isStr z = decide (z = "open") := by
    rw [k2]
    exact isStr_lit
  have r1 : [e1, e2].any (·.refKey) = false := by
    simp [DictEntry.refKey, k1, k2]
  simp only [List.find?, s1, s2]
  by_cases h1 : z = "exact"
  · simp [h1, v1]
  · by_cases h2 : z = "open"
    · have n := open_exact
      simp [h2, v2, n]
    · simp [h1, h2, r1]
section
variable {P : Program} {w : World} {K : PySem.W.Frag} {mg : Str → Option Value} {base : Heap} {f : Addr} {fd : FuncData} {kd : Addr} {es : Array DictEntry} {kn : Nat}
def spRule (K : PySem.W.Frag) : Sp := fun vs H Q _ => ∃ (v : V) (d : PyData), vs = [v] ∧ Dd K H v d ∧ fitB d = true ∧ Q (.bl (ruleD d)) H
theorem scRu : FnScope ["value", "sort", "place", "answer"] ["value"] (defScope sRule) := ⟨rfl, rfl, rfl, by decide +kernel, rfl, by decide +kernel, by decide +kernel⟩
theorem ok_rule (Fd : Fun K "is_rule" "is_rule" sRule f fd) (T : Tx mg) (Z : Kinds K w mg kd es kn) (DP : Df P w K mg base 3 "is_place" ["value"] (spPlace K)) (DA : Df P w K mg base 4 "_is_answer" ["value", "own_kind"] (spAnswer K)) :
    FnOk P w K mg base CX0 5 f fd ["value"] (spRule K) := by
  refine Fd.ok scRu (fun vs H Q E h => ?_) (fun cdv A outer s H vs Q E hr h => ?_)
  · obtain ⟨v, d, rfl, _⟩ := h
    rfl
  · obtain ⟨v, d, rfl, hT, hf, q⟩ := h
    obtain ⟨u1, u2, hget⟩ := Z.get
    refine ⟨_, pss_cons (ps_if (PW.pt (pw_or (pt_not (pt_val (pe_callB (call_isa "tuple") (by rfl) T.isi bootN (pa_cons (pv 0) (pa_cons (pe_bltn (v := .ty "tuple") (by rfl) T.tuple (by decide +kernel) rfl) pa_nil)))))
        (pw_or1 (pt_cmpR op_ne (pe_callB call_len_seq (by rfl) T.len PySem.boot_len (pa_cons (pv 0) pa_nil)) pe_int (nomark _))))) (pss_one (ps_ret pe_bl)) pss_nil)
      (pss_cons (ps_asg (pv 0) (pg_tup rfl (pgs_cons (pg_name (i := 1) scRu.nd rfl (Or.inl rfl)) (pgs_cons (pg_name (i := 2) scRu.nd rfl (Or.inl rfl)) (pgs_cons (pg_name (i := 3) scRu.nd rfl (Or.inl rfl)) pgs_nil)))))
      (pss_cons (ps_if (PW.pt (pw_or (pt_not (pt_val (pe_callB (call_isa "str") (by rfl) T.isi bootN (pa_cons (pv 1) (pa_cons (pe_bltn (v := .ty "str") (by rfl) T.str (by decide +kernel) rfl) pa_nil)))))
        (pw_or1 (pt_cmpR (op_notIn_kd Z.kd) (pv 1) (pe_glob (v := .ref kd) (by rfl) Z.at_ rfl) rfl)))) (pss_one (ps_ret pe_bl)) pss_nil)
      (pss_one (ps_ret (pe_and (pe_df DP hr (pa_cons (pv 2) pa_nil)) (pe_one (pe_df DA hr (pa_cons (pv 3) (pa_cons (pe_ix ix_kdict (pe_glob (v := .ref kd) (by rfl) Z.at_ rfl) (pv 1) (fun _ _ => rfl)) pa_nil))))))))), ?_⟩
    refine ⟨_, rfl, _, rfl, _, _, hT.ty, kit_tuple d, _, rfl, ?_⟩
    cases d with
    | tuple ds =>
      obtain ⟨a, xs, rfl, hs, hl2, hi⟩ := hT.its
      have hfm := fit_mem hf
      refine iteF ⟨_, rfl, a, _, rfl, .inr hs, rfl, _, rfl, ?_⟩
      show if (!decide (V.int (xs.length : Int) = V.int ((3 : Nat) : Int))) = true then _ else _
      rw [len_is, hl2]
      have no : ruleD (.tuple ds) = false → Q (.bl false) H := fun e => by
        rw [e] at q
        exact q
      match ds, hl2, hi, hfm, q, no with
      | [], _, _, _, _, no => exact iteT (no rfl)
      | [_], _, _, _, _, no => exact iteT (no rfl)
      | [_, _], _, _, _, _, no => exact iteT (no rfl)
      | k :: n :: m :: b :: r2, _, _, _, _, no =>
        rw [decide_eq_false (by simp)]
        exact iteT (no rfl)
      | [k, p, b], hl2, hi, hfm, q, no =>
        match xs, hl2, hs, hi with
        | [x, y, z], _, hs, hi =>
          obtain ⟨d0, z0, D0⟩ := hi 0 x rfl
          cases z0
          obtain ⟨d1, z1, D1⟩ := hi 1 y rfl
          cases z1
          obtain ⟨d2, z2, D2⟩ := hi 2 z rfl
          cases z2
          refine iteF ⟨_, rfl, a, _, rfl, hs, rfl, _, _, rfl, _, _, rfl, _, _, rfl, ?_⟩
          refine ⟨rfl, ?_⟩
          refine ⟨_, rfl, _, rfl, _, _, D0.ty, kit_str k, _, rfl, ?_⟩
          cases k with
          | str s =>
            have es := D0.str_v
            subst es
            have go : ∀ (own : Str) (u : Value), PySem.W.nsIn K kd s = some (some u) → RelV (.str own) u → (placeD p && answerD own b) = ruleT (.str s) p b → tAndV (tDf (spPlace K) (tCons (tVar 2) tNil)) (tDf (spAnswer K) (tCons (tVar 3) (tCons (tOp (rIxD K w) (tC (.ref kd)) (tVar 1)) tNil)))
                [some (.ref a), some (.str s), some y, some z] H Q := fun own u e1 e2 e3 => by
              refine ⟨_, rfl, _, p, rfl, D1, fits_of (hfm _ (by simp)), _, rfl, ?_⟩
              have q : Q (.bl (ruleT (.str s) p b)) H := q
              rw [← e3] at q
              cases e : placeD p with
              | false =>
                rw [e] at q
                exact iteF q
              | true =>
                rw [e] at q
                refine iteT ⟨_, rfl, _, rfl, _, s, .str own, rfl, rfl, ⟨es, kn, u, Z.kd.at_, Z.kd.lit, e1, e2⟩, _, b, own, rfl, D2, hfm _ (by simp), q⟩
            by_cases h1 : s = "exact"
            · have e := (hget s).trans (if_pos h1)
              exact iteF ⟨_, rfl, s, _, rfl, rfl, e, _, rfl, iteF (go "page" _ e ⟨_, rfl⟩ (by rw [h1, ruleT_exact]))⟩
            · by_cases h2 : s = "open"
              · have e := (hget s).trans ((if_neg h1).trans (if_pos h2))
                exact iteF ⟨_, rfl, s, _, rfl, rfl, e, _, rfl, iteF (go "section" _ e ⟨_, rfl⟩ (by rw [h2, ruleT_open]))⟩
              · have e := (hget s).trans ((if_neg h1).trans (if_neg h2))
                exact iteF ⟨_, rfl, s, _, rfl, rfl, e, _, rfl, iteT (no (ruleT_none h1 h2 p b))⟩
          | _ => exact iteT (no rfl)
    | _ => exact iteT q
end
end K4
namespace K4
open PySem L2 Ld
/-! ### the law's own reading of rules -/
inductive Own : Str → Str → Prop
  | page : Own "exact" "page"
  | sect : Own "open" "section"
theorem Own.gone {s o : Str} (h : Own s o) : ¬ o = "gone" := by cases h <;> decide +kernel
theorem Own.to {s o : Str} (h : Own s o) : ¬ o = "to" := by cases h <;> decide +kernel
theorem gone_to : ¬ (("gone" : Str) = "to") := by decide +kernel
theorem txt_str (z y : Str) : txtD (.str z) y = decide (z = y) := rfl
theorem txt_no {d : PyData} (h : isStrD d = false) (y : Str) : txtD d y = false := by
  cases d with
  | str z => cases h
  | _ => rfl
theorem ans_no {own : Str} {k : PyData} {r : List PyData} (h : isStrD k = false) : answerD own (.tuple (k :: r)) = false := by
  rw [answerD_cons, txt_no h, txt_no h, txt_no h]
  rfl
theorem ans_long {own : Str} {k x y z : PyData} {r : List PyData} : answerD own (.tuple (k :: x :: y :: z :: r)) = false := by
  rw [answerD_cons]
  show (if _ then false else if _ then false else _ && false) = false
  rw [Bool.and_false]
  split
  · rfl
  · split <;> rfl
theorem ans_one {own z : Str} : answerD own (.tuple [.str z]) = decide (z = "gone") := by
  rw [answerD_cons]
  show (if txtD (.str z) "gone" = true then true else if _ then false else _ && false) = _
  rw [Bool.and_false, txt_str]
  by_cases h : z = "gone"
  · rw [decide_eq_true h]
    rfl
  · rw [decide_eq_false h]
    simp
theorem ans_two {s own z : Str} {x : PyData} (h : Own s own) : answerD own (.tuple [.str z, x]) = (decide (z = own) && wordD x) := by
  rw [answerD_cons]
  show (if txtD (.str z) "gone" = true then false else if txtD (.str z) "to" = true then false else txtD (.str z) own && wordD x) = _
  rw [txt_str, txt_str, txt_str]
  by_cases h1 : z = "gone"
  · have n : ¬ z = own := fun e => h.gone (e.symm.trans h1)
    rw [decide_eq_true h1, decide_eq_false n]
    rfl
  · rw [decide_eq_false h1]
    by_cases h2 : z = "to"
    · have n : ¬ z = own := fun e => h.to (e.symm.trans h2)
      rw [decide_eq_true h2, decide_eq_false n]
      rfl
    · rw [decide_eq_false h2]
      rfl
theorem ans_three {own z : Str} {x y : PyData} : answerD own (.tuple [.str z, x, y]) = (decide (z = "to") && (placeD x && numD 10000 y)) := by
  rw [answerD_cons]
  show (if txtD (.str z) "gone" = true then false else if txtD (.str z) "to" = true then placeD x && numD 10000 y else txtD (.str z) own && false) = _
  rw [txt_str, txt_str, txt_str, Bool.and_false]
  by_cases h1 : z = "gone"
  · have n : ¬ z = "to" := fun e => gone_to (h1.symm.trans e)
    rw [decide_eq_true h1, decide_eq_false n]
    rfl
  · rw [decide_eq_false h1]
    by_cases h2 : z = "to"
    · rw [decide_eq_true h2]
      rfl
    · rw [decide_eq_false h2]
      rfl
theorem dec_txt {x y : Str} : decide (V.str x = V.str y) = decide (x = y) := by
  by_cases h : x = y
  · subst h
    simp
  · rw [decide_eq_false h, decide_eq_false fun e => h (V.str.inj e)]
theorem disp_get {s o : Str} (h : Own s o) : valV (mergeK [] [(Sum.inr "exact", V.str "page"), (Sum.inr "open", V.str "section")]) (Sum.inr s) = some (.str o) := by
  cases h <;> decide +kernel
theorem far_three {n : Nat} {xs : List V} (h : xs.length = n + 1 + 1 + 1 + 1) : inV (.int (xs.length : Int)) [.int 1, .int 2, .int 3] = false := by
  show ((1 : Int) == (xs.length : Int) || ((2 : Int) == (xs.length : Int) || ((3 : Int) == (xs.length : Int) || false))) = false
  rw [h]
  have e1 : ((1 : Int) == ((n + 1 + 1 + 1 + 1 : Nat) : Int)) = false := beq_false_of_ne (by omega)
  have e2 : ((2 : Int) == ((n + 1 + 1 + 1 + 1 : Nat) : Int)) = false := beq_false_of_ne (by omega)
  have e3 : ((3 : Int) == ((n + 1 + 1 + 1 + 1 : Nat) : Int)) = false := beq_false_of_ne (by omega)
  rw [e1, e2, e3]
  rfl
section
variable {P : Program} {w : World} {K : PySem.W.Frag} {mg : Str → Option Value} {base : Heap} {f : Addr} {fd : FuncData}
def spAnswerDue (K : PySem.W.Frag) : Sp := fun vs H Q _ => ∃ (v : V) (d : PyData) (s own : Str), vs = [.str s, v] ∧ Own s own ∧ Dd K H v d ∧ fitB d = true ∧ ∀ H', Same H H' → Q (.bl (answerD own d)) H'
theorem scAD : FnScope ["_law_sort", "_law_thing", "_law_days"] ["_law_sort", "_law_thing"] (defScope sAnswerDue) := ⟨rfl, rfl, rfl, by decide +kernel, rfl, by decide +kernel, by decide +kernel⟩
theorem ok_answerDue (Fd : Fun K "_law_answer_due" "_law_answer_due" sAnswerDue f fd) (T : Tx mg) (WD : Df P w K mg base 1 "_law_word_due" ["_law_thing"] (spWordDue K)) (PD : Df P w K mg base 2 "_law_place_due" ["_law_thing"] (spPlaceDue K)) :
    FnOk P w K mg base CX0 3 f fd ["_law_sort", "_law_thing"] (spAnswerDue K) := by
  refine Fd.ok scAD (fun vs H Q E h => ?_) (fun cdv A outer s H vs Q E hr h => ?_)
  · obtain ⟨v, d, s, own, rfl, _⟩ := h
    rfl
  · obtain ⟨v, d, srt, own, rfl, ho, hT, hf, q⟩ := h
    have hu := Nat.lt_of_le_of_lt (Nat.le_add_right _ 64) hr.units
    refine ⟨_, pss_cons (ps_if (PW.pt (pw_or (pt_not (pt_val (pe_callB (call_isa "tuple") (by rfl) T.isi bootN (pa_cons (pv 1) (pa_cons (pe_bltn (v := .ty "tuple") (by rfl) T.tuple (by decide +kernel) rfl) pa_nil)))))
        (pw_or (pt_cmpR op_notIn_seq (pe_callB call_len_seq (by rfl) T.len PySem.boot_len (pa_cons (pv 1) pa_nil)) (pe_tup (pa_cons pe_int (pa_cons pe_int (pa_cons pe_int pa_nil)))) rfl)
        (pw_or1 (pt_not (pt_val (pe_callB (call_isa "str") (by rfl) T.isi bootN (pa_cons (pe_ix ix_tup (pv 1) pe_int (fun _ _ => rfl)) (pa_cons (pe_bltn (v := .ty "str") (by rfl) T.str (by decide +kernel) rfl) pa_nil))))))))) (pss_one (ps_ret pe_bl)) pss_nil)
      (pss_cons (ps_if (pt_cmpR op_eq (pe_callB call_len_seq (by rfl) T.len PySem.boot_len (pa_cons (pv 1) pa_nil)) pe_int (nomark _)) (pss_one (ps_ret (pe_cmpR op_eq (pe_ix ix_tup (pv 1) pe_int (fun _ _ => rfl)) pe_str (nomark _)))) pss_nil)
      (pss_cons (ps_if (pt_cmpR op_eq (pe_callB call_len_seq (by rfl) T.len PySem.boot_len (pa_cons (pv 1) pa_nil)) pe_int (nomark _))
        (pss_one (ps_ret (pe_and (pe_cmpR op_eq (pe_ix ix_tup (pv 1) pe_int (fun _ _ => rfl)) (pe_dget (hu_of hr) (pe_disp (pps_cons pe_str pe_str (pps_cons pe_str pe_str pps_nil)) (by rfl) (by rfl) (fun z => by cases z) (by decide)) (pv 0) (fun _ _ => rfl)) (nomark _))
          (pe_one (pe_df WD hr (pa_cons (pe_ix ix_tup (pv 1) pe_int (fun _ _ => rfl)) pa_nil)))))) pss_nil)
      (pss_cons (ps_set (i := 2) scAD.nd rfl (Or.inl rfl) (pe_ix ix_tup (pv 1) pe_int (fun _ _ => rfl)))
      (pss_cons (ps_if (PW.pt (pw_or (pt_cmpR op_ne (pe_ix ix_tup (pv 1) pe_int (fun _ _ => rfl)) pe_str (nomark _)) (pw_or (pt_not (pt_val (pe_df PD hr (pa_cons (pe_ix ix_tup (pv 1) pe_int (fun _ _ => rfl)) pa_nil))))
          (pw_or (pt_not (pt_val (pe_callB (call_isa "int") (by rfl) T.isi bootN (pa_cons (pv 2) (pa_cons (pe_bltn (v := .ty "int") (by rfl) T.int (by decide +kernel) rfl) pa_nil)))))
          (pw_or1 (pt_val (pe_callB (call_isa "bool") (by rfl) T.isi bootN (pa_cons (pv 2) (pa_cons (pe_bltn (v := .ty "bool") (by rfl) T.bool (by decide +kernel) rfl) pa_nil))))))))) (pss_one (ps_ret pe_bl)) pss_nil)
      (pss_one (ps_ret (pe_chain op_le op_le pe_int (pv 2) pe_int))))))), ?_⟩
    refine ⟨_, rfl, _, rfl, _, _, hT.ty, kit_tuple d, _, rfl, ?_⟩
    cases d with
    | tuple ds =>
      obtain ⟨a, xs, rfl, hs, hl2, hi⟩ := hT.its
      have hfm := fit_mem hf
      refine iteF ⟨_, rfl, a, xs, rfl, .inr hs, (show 3 ≤ sizeLine by decide), fun t ht => ?_⟩
      have S1 := Same.new (o := .tup [.int 1, .int 2, .int 3]) ht
      refine ⟨t, _, rfl, .inr (.of upd_same), rfl, rfl, _, rfl, ?_⟩
      have hs1 := same_T S1 hs
      have hi1 : ∀ (i : Nat) (x : V), xs[i]? = some x → ∃ d, ds[i]? = some d ∧ Dd K (upd H t (.tup [.int 1, .int 2, .int 3])) x d := fun i x e => by
        obtain ⟨d, e1, e2⟩ := hi i x e
        exact ⟨d, e1, e2.same S1⟩
      have no : answerD own (.tuple ds) = false → ∀ H', Same H H' → Q (.bl false) H' := fun e => by
        rw [e] at q
        exact q
      match ds, hl2, hi1, hfm, q, no with
      | [], hl2, _, _, _, no =>
        have e := List.length_eq_zero_iff.mp hl2
        subst e
        exact iteT (no rfl _ S1)
      | k :: x :: y :: z :: r, hl2, _, _, _, no =>
        rw [far_three hl2]
        exact iteT (no ans_long _ S1)
      | [k], hl2, hi1, hfm, q, no =>
        match xs, hl2, hs1, hi1 with
        | [x], _, hs1, hi1 =>
          obtain ⟨d0, z0, D0⟩ := hi1 0 x rfl
          cases z0
          refine iteF ⟨_, rfl, a, _, _, _, rfl, rfl, hs1, at0, _, rfl, _, _, D0.ty, kit_str k, _, rfl, ?_⟩
          cases k with
          | str z =>
            have ez := D0.str_v
            subst ez
            refine iteF ⟨_, rfl, a, _, rfl, .inr hs1, rfl, _, rfl, iteT ⟨_, rfl, a, _, _, _, rfl, rfl, hs1, at0, rfl, ?_⟩⟩
            rw [dec_txt, ← ans_one (own := own)]
            exact q _ S1
          | _ => exact iteT (no (ans_no rfl) _ S1)
      | [k, p], hl2, hi1, hfm, q, no =>
        match xs, hl2, hs1, hi1 with
        | [x, y], _, hs1, hi1 =>
          obtain ⟨d0, z0, D0⟩ := hi1 0 x rfl
          cases z0
          obtain ⟨d1, z1, D1⟩ := hi1 1 y rfl
          cases z1
          refine iteF ⟨_, rfl, a, _, _, _, rfl, rfl, hs1, at0, _, rfl, _, _, D0.ty, kit_str k, _, rfl, ?_⟩
          cases k with
          | str z =>
            have ez := D0.str_v
            subst ez
            refine iteF ⟨_, rfl, a, _, rfl, .inr hs1, rfl, _, rfl, iteF ⟨_, rfl, a, _, rfl, .inr hs1, rfl, _, rfl, iteT ⟨_, rfl, a, _, _, _, rfl, rfl, hs1, at0, fun g hg => ?_⟩⟩⟩
            refine ⟨upd_same, [(Sum.inr "exact", .str "page"), (Sum.inr "open", .str "section")], rfl, (show 2 ≤ 15 by decide), ?_⟩
            have S3 : Same H (upd (upd (upd H t (.tup [.int 1, .int 2, .int 3])) g (.dK [])) g (.dK (mergeK [] [(Sum.inr "exact", V.str "page"), (Sum.inr "open", V.str "section")]))) := fun b o e => by
              have e1 := S1 b o e
              rw [upd_ne (ne_of_none e1 hg), upd_ne (ne_of_none e1 hg)]
              exact e1
            have dg : DGet (upd (upd (upd H t (.tup [.int 1, .int 2, .int 3])) g (.dK [])) g (.dK (mergeK [] [(Sum.inr "exact", V.str "page"), (Sum.inr "open", V.str "section")]))) g (.str srt) (some (.str own)) := by
              have z := DGet.k (k := Sum.inr srt) (upd_same (H := upd (upd H t (.tup [.int 1, .int 2, .int 3])) g (.dK [])) (a := g) (o := .dK (mergeK [] [(Sum.inr "exact", V.str "page"), (Sum.inr "open", V.str "section")])))
              rw [disp_get ho] at z
              exact z
            refine ⟨_, rfl, g, _, rfl, dg, rfl, _, rfl, ?_⟩
            generalize upd _ g (.dK (mergeK [] [(Sum.inr "exact", V.str "page"), (Sum.inr "open", V.str "section")])) = H3 at S3
            rw [dec_txt]
            have q : ∀ H', Same H H' → Q (.bl (decide (z = own) && wordD p)) H' := fun H' s => by
              rw [← ans_two ho]
              exact q H' s
            cases e : decide (z = own) with
            | false =>
              rw [e] at q
              exact iteF (q _ S3)
            | true =>
              rw [e] at q
              obtain ⟨d1, z1, D1⟩ := hi 1 y rfl
              cases z1
              exact iteT ⟨_, rfl, a, _, _, _, rfl, rfl, same_T S3 hs, at1, _, p, rfl, D1.same S3, fitS_of (hfm _ (by simp)), fun H4 S4 => q _ (S3.trans S4)⟩
          | _ => exact iteT (no (ans_no rfl) _ S1)
      | [k, p, n], hl2, hi1, hfm, q, no =>
        match xs, hl2, hs1, hi1 with
        | [x, y, z], _, hs1, hi1 =>
          obtain ⟨d0, z0, D0⟩ := hi1 0 x rfl
          cases z0
          obtain ⟨d1, z1, D1⟩ := hi1 1 y rfl
          cases z1
          obtain ⟨d2, z2, D2⟩ := hi1 2 z rfl
          cases z2
          refine iteF ⟨_, rfl, a, _, _, _, rfl, rfl, hs1, at0, _, rfl, _, _, D0.ty, kit_str k, _, rfl, ?_⟩
          cases k with
          | str s =>
            have ez := D0.str_v
            subst ez
            refine iteF ⟨_, rfl, a, _, rfl, .inr hs1, rfl, _, rfl, iteF ⟨_, rfl, a, _, rfl, .inr hs1, rfl, _, rfl, iteF ⟨_, rfl, a, _, _, _, rfl, rfl, hs1, at2, _, rfl, a, _, _, _, rfl, rfl, hs1, at0, rfl, _, rfl, ?_⟩⟩⟩
            rw [dec_txt]
            have q : ∀ H', Same H H' → Q (.bl (decide (s = "to") && (placeD p && numD 10000 n))) H' := fun H' s => by
              rw [← ans_three (own := own)]
              exact q H' s
            cases e : decide (s = "to") with
            | false =>
              rw [e] at q
              exact iteT (q _ S1)
            | true =>
              rw [e] at q
              refine iteF ⟨_, rfl, a, _, _, _, rfl, rfl, hs1, at1, _, p, rfl, D1, fits_of (hfm _ (by simp)), fun H4 S4 => ⟨_, rfl, ?_⟩⟩
              have S5 := S1.trans S4
              cases e2 : placeD p with
              | false =>
                rw [e2] at q
                exact iteT (q _ S5)
              | true =>
                rw [e2] at q
                have D4 := D2.same S4
                refine iteF ⟨_, rfl, _, rfl, _, _, D4.ty, kit_int n, _, rfl, ?_⟩
                have q : ∀ H', Same H H' → Q (.bl (numD 10000 n)) H' := q
                cases n with
                | int i =>
                  have ei := D4.int_v
                  subst ei
                  refine iteF ⟨_, rfl, _, rfl, _, _, D4.ty, kit_bool _, _, rfl, iteF ⟨_, rfl, _, _, rfl, rfl, _, rfl, ?_⟩⟩
                  by_cases h0 : 0 ≤ i
                  · rw [decide_eq_true h0]
                    refine iteT ⟨_, _, rfl, rfl, ?_⟩
                    have e : numD 10000 (.int i) = decide (i ≤ 10000) := by simp [numD, h0]
                    rw [e] at q
                    exact q _ S5
                  · rw [decide_eq_false h0]
                    have e : numD 10000 (.int i) = false := by simp [numD, h0]
                    rw [e] at q
                    exact iteF (q _ S5)
                | bool b => exact iteF ⟨_, rfl, _, rfl, _, _, D4.ty, kit_bool _, _, rfl, iteT (q _ S5)⟩
                | _ => exact iteT (q _ S5)
          | _ => exact iteT (no (ans_no rfl) _ S1)
    | _ => exact iteT (q H (Same.refl H))
end
end K4
namespace K4
open PySem L2 Ld
section
variable {P : Program} {w : World} {K : PySem.W.Frag} {mg : Str → Option Value} {base : Heap} {f : Addr} {fd : FuncData}
def spDue (K : PySem.W.Frag) : Sp := fun vs H Q _ => ∃ (v : V) (d : PyData), vs = [v] ∧ Dd K H v d ∧ fitB d = true ∧ ∀ H', Same H H' → Q (.bl (ruleD d)) H'
theorem scDu : FnScope ["_law_thing"] ["_law_thing"] (defScope sDue) := ⟨rfl, rfl, rfl, by decide +kernel, rfl, by decide +kernel, by decide +kernel⟩
theorem inV_two (s : Str) : inV (.str s) [.str "exact", .str "open"] = (decide (s = "exact") || decide (s = "open")) := by
  show ((("exact" : Str) == s) || ((("open" : Str) == s) || false)) = _
  have h : ∀ x : Str, (x == s) = decide (s = x) := fun x => by
    by_cases e : s = x
    · subst e
      simp
    · rw [decide_eq_false e]
      exact beq_false_of_ne fun z => e z.symm
  rw [h, h, Bool.or_false]
theorem ok_due (Fd : Fun K "_law_due" "_law_due" sDue f fd) (T : Tx mg) (PD : Df P w K mg base 2 "_law_place_due" ["_law_thing"] (spPlaceDue K)) (AD : Df P w K mg base 3 "_law_answer_due" ["_law_sort", "_law_thing"] (spAnswerDue K)) :
    FnOk P w K mg base CX0 4 f fd ["_law_thing"] (spDue K) := by
  refine Fd.ok scDu (fun vs H Q E h => ?_) (fun cdv A outer s H vs Q E hr h => ?_)
  · obtain ⟨v, d, rfl, _⟩ := h
    rfl
  · obtain ⟨v, d, rfl, hT, hf, q⟩ := h
    refine ⟨_, pss_cons (ps_if (PW.pt (pw_or (pt_not (pt_val (pe_callB (call_isa "tuple") (by rfl) T.isi bootN (pa_cons (pv 0) (pa_cons (pe_bltn (v := .ty "tuple") (by rfl) T.tuple (by decide +kernel) rfl) pa_nil)))))
        (pw_or (pt_cmpR op_ne (pe_callB call_len_seq (by rfl) T.len PySem.boot_len (pa_cons (pv 0) pa_nil)) pe_int (nomark _))
        (pw_or1 (pt_not (pt_val (pe_callB (call_isa "str") (by rfl) T.isi bootN (pa_cons (pe_ix ix_tup (pv 0) pe_int (fun _ _ => rfl)) (pa_cons (pe_bltn (v := .ty "str") (by rfl) T.str (by decide +kernel) rfl) pa_nil))))))))) (pss_one (ps_ret pe_bl)) pss_nil)
      (pss_cons (ps_if (PW.pt (pw_or (pt_cmpR op_notIn_seq (pe_ix ix_tup (pv 0) pe_int (fun _ _ => rfl)) (pe_tup (pa_cons pe_str (pa_cons pe_str pa_nil))) rfl)
        (pw_or1 (pt_not (pt_val (pe_df PD hr (pa_cons (pe_ix ix_tup (pv 0) pe_int (fun _ _ => rfl)) pa_nil))))))) (pss_one (ps_ret pe_bl)) pss_nil)
      (pss_one (ps_ret (pe_df AD hr (pa_cons (pe_ix ix_tup (pv 0) pe_int (fun _ _ => rfl)) (pa_cons (pe_ix ix_tup (pv 0) pe_int (fun _ _ => rfl)) pa_nil)))))), ?_⟩
    refine ⟨_, rfl, _, rfl, _, _, hT.ty, kit_tuple d, _, rfl, ?_⟩
    cases d with
    | tuple ds =>
      obtain ⟨a, xs, rfl, hs, hl2, hi⟩ := hT.its
      have hfm := fit_mem hf
      refine iteF ⟨_, rfl, a, xs, rfl, .inr hs, rfl, _, rfl, ?_⟩
      show if (!decide (V.int (xs.length : Int) = V.int ((3 : Nat) : Int))) = true then _ else _
      rw [len_is, hl2]
      have no : ruleD (.tuple ds) = false → ∀ H', Same H H' → Q (.bl false) H' := fun e => by
        rw [e] at q
        exact q
      match ds, hl2, hi, hfm, q, no with
      | [], _, _, _, _, no => exact iteT (no rfl _ (Same.refl H))
      | [_], _, _, _, _, no => exact iteT (no rfl _ (Same.refl H))
      | [_, _], _, _, _, _, no => exact iteT (no rfl _ (Same.refl H))
      | k :: n :: m :: b :: r2, _, _, _, _, no =>
        rw [decide_eq_false (by simp)]
        exact iteT (no rfl _ (Same.refl H))
      | [k, p, b], hl2, hi, hfm, q, no =>
        match xs, hl2, hs, hi with
        | [x, y, z], _, hs, hi =>
          obtain ⟨d0, z0, D0⟩ := hi 0 x rfl
          cases z0
          obtain ⟨d1, z1, D1⟩ := hi 1 y rfl
          cases z1
          obtain ⟨d2, z2, D2⟩ := hi 2 z rfl
          cases z2
          refine iteF ⟨_, rfl, a, _, _, _, rfl, rfl, hs, at0, _, rfl, _, _, D0.ty, kit_str k, _, rfl, ?_⟩
          cases k with
          | str s =>
            have es := D0.str_v
            subst es
            refine iteF ⟨_, rfl, a, _, _, _, rfl, rfl, hs, at0, (show 2 ≤ sizeLine by decide), fun t ht => ⟨t, _, rfl, .inr (.of upd_same), rfl, rfl, _, rfl, ?_⟩⟩
            have S1 := Same.new (o := .tup [.str "exact", .str "open"]) ht
            have hown : (∃ own, Own s own ∧ (placeD p && answerD own b) = ruleT (.str s) p b) ∨ (inV (.str s) [.str "exact", .str "open"] = false ∧ ruleT (.str s) p b = false) := by
              by_cases h1 : s = "exact"
              · subst h1
                exact .inl ⟨_, .page, (ruleT_exact p b).symm⟩
              · by_cases h2 : s = "open"
                · subst h2
                  exact .inl ⟨_, .sect, (ruleT_open p b).symm⟩
                · refine .inr ⟨?_, ruleT_none h1 h2 p b⟩
                  rw [inV_two, decide_eq_false h1, decide_eq_false h2]
                  rfl
            rcases hown with ⟨own, ho, e⟩ | ⟨e1, e2⟩
            · have ei : inV (.str s) [.str "exact", .str "open"] = true := by cases ho <;> decide +kernel
              rw [ei]
              have q : ∀ H', Same H H' → Q (.bl (ruleT (.str s) p b)) H' := q
              rw [← e] at q
              refine iteF ⟨_, rfl, a, _, _, _, rfl, rfl, same_T S1 hs, at1, _, p, rfl, D1.same S1, fits_of (hfm _ (by simp)), fun H3 S3 => ⟨_, rfl, ?_⟩⟩
              have S4 := S1.trans S3
              cases g : placeD p with
              | false =>
                rw [g] at q
                exact iteT (q _ S4)
              | true =>
                rw [g] at q
                exact iteF ⟨_, rfl, a, _, _, _, rfl, rfl, same_T S4 hs, at0, _, rfl, a, _, _, _, rfl, rfl, same_T S4 hs, at2, _, b, s, own, rfl, ho, D2.same S4, hfm _ (by simp), fun H' s' => q H' (S4.trans s')⟩
            · rw [e1]
              exact iteT (no e2 _ S1)
          | _ => exact iteT (no rfl _ (Same.refl H))
    | _ => exact iteT (q H (Same.refl H))
end
end K4
namespace K4
open PySem L2 Ld
abbrev sAny : Stmt := top 34
/-! ### values that are neither large nor deep -/
def atomB (d : PyData) : Bool := fitB d && d.showable && decide (d.depth ≤ 4) && decide (d.shown.length ≤ 100)
/-- any of the menu: what is no rule -/
def AnyD (K : PySem.W.Frag) (H : Hp) (v : V) : Prop := ∃ d, Dd K H v d ∧ atomB d = true ∧ ruleD d = false
theorem AnyD.sb {K : PySem.W.Frag} {H H' : Hp} {wa : Addr} {v : V} (W : Well H wa) (s : Sb wa H H') (h : AnyD K H v) : AnyD K H' v := by
  obtain ⟨d, h1, h2⟩ := h
  exact ⟨d, h1.sb W s, h2⟩
theorem ne_at {H : Hp} {a b : Addr} {o u : HO} (ha : H a = some o) (hb : H b = some u) (d : o ≠ u) : a ≠ b := fun z => by
  subst z
  rw [ha] at hb
  exact d (Option.some.inj hb)
section
variable {P : Program} {w : World} {K : PySem.W.Frag} {mg : Str → Option Value} {base : Heap} {f : Addr} {fd : FuncData}
def spAny (K : PySem.W.Frag) : Sp := fun vs H Q _ => ∃ wa : Addr, vs = [.ref wa] ∧ Well H wa ∧ ∀ v H', AnyD K H' v → Well H' wa → Sb wa H H' → Q v H'
theorem scAny : FnScope ["_law_well_here", "_law_some"] ["_law_well_here"] (defScope sAny) := ⟨rfl, rfl, rfl, by decide +kernel, rfl, by decide +kernel, by decide +kernel⟩
theorem ok_any (Fd : Fun K "_law_any" "_law_any" sAny f fd) (T : Tx mg) (C : Df P w K mg base 2 "_law_choose" ["_law_well_here", "_law_things"] (spChoose K)) :
    FnOk P w K mg base CX0 3 f fd ["_law_well_here"] (spAny K) := by
  refine Fd.ok scAny (fun vs H Q E h => ?_) (fun cdv A outer s G0 vs Q E hr h => ?_)
  · obtain ⟨wa, rfl, _⟩ := h
    rfl
  · obtain ⟨wa, rfl, hw, q⟩ := h
    refine ⟨_, pss_cons (ps_set (i := 1) scAny.nd rfl (Or.inl rfl) (pe_lst (pa_cons pe_non (pa_cons pe_bl (pa_cons pe_bl (pa_cons pe_int (pa_cons pe_int (pa_cons (pe_un un_neg pe_int) (pa_cons pe_int (pa_cons pe_int (pa_cons (pe_op op_pow pe_int pe_int)
        (pa_cons pe_str (pa_cons pe_str (pa_cons pe_str (pa_cons pe_str (pa_cons pe_str (pa_cons pe_str pa_nil)))))))))))))))))
      (pss_cons (ps_set (i := 1) scAny.nd rfl (Or.inl rfl) (pe_op op_cat (pv 1) (pe_lst (pa_cons pe_str (pa_cons pe_str pa_nil)))))
      (pss_cons (ps_set (i := 1) scAny.nd rfl (Or.inl rfl) (pe_op op_cat (pv 1) (pe_lst (pa_cons (pe_tup pa_nil) (pa_cons (pe_tup (pa_cons pe_str pa_nil)) (pa_cons (pe_lstN (pa_cons pe_str pa_nil)) (pa_cons (pe_tup (pa_cons pe_str pa_nil)) (pa_cons (pe_tup (pa_cons pe_str pa_nil))
        (pa_cons (pe_lstN (pa_cons pe_str pa_nil)) (pa_cons (pe_tup (pa_cons pe_str (pa_cons pe_str pa_nil))) pa_nil))))))))))
      (pss_cons (ps_set (i := 1) scAny.nd rfl (Or.inl rfl) (pe_op op_cat (pv 1) (pe_lst (pa_cons (pe_tup (pa_cons pe_str (pa_cons pe_str pa_nil))) pa_nil))))
      (pss_cons (ps_expr (pe_bm PySem.F.plainAttrs_list PySem.F.slot_list_append PySem.F.type_list_append mt_append (pv 1) (pa_cons (pe_tup (pa_cons pe_str (pa_cons (pe_tup (pa_cons pe_str pa_nil)) (pa_cons pe_int pa_nil)))) pa_nil)))
      (pss_one (ps_ret (pe_df C hr (pa_cons (pv 0) (pa_cons (pe_op op_cat (pv 1) (pe_lst (pa_cons (pe_tup (pa_cons pe_str (pa_cons (pe_tup (pa_cons pe_str pa_nil)) pa_nil))) (pa_cons pe_dnewK
        (pa_cons (pe_tup (pa_cons pe_str (pa_cons pe_str (pa_cons pe_str (pa_cons pe_str (pa_cons pe_str pa_nil)))))) (pa_cons (pe_tup (pa_cons pe_str (pa_cons (pe_lstN (pa_cons pe_str pa_nil)) (pa_cons pe_int pa_nil))))
        (pa_cons (pe_tup (pa_cons pe_str (pa_cons pe_str (pa_cons pe_int pa_nil)))) pa_nil))))))) pa_nil))))))))), ?_⟩
    refine ⟨_, rfl, _, _, rfl, rfl, ⟨by decide, by decide, by decide⟩, ?_⟩
    refine ⟨(show 15 ≤ sizeLine by decide), fun p1 m_p1 => ?_⟩
    have y0 := Same.new (H := G0) (o := .lst [.non, .bl true, .bl false, .int 0, .int 1, .int (-1), .int 10000, .int 10001, .int (10 ^ (59 : Int).toNat), .str "", .str "a", .str "A", .str "exact", .str "open", .str "page"]) m_p1
    have e_p1 := upd_same (H := G0) (a := p1) (o := .lst [.non, .bl true, .bl false, .int 0, .int 1, .int (-1), .int 10000, .int 10001, .int (10 ^ (59 : Int).toNat), .str "", .str "a", .str "A", .str "exact", .str "open", .str "page"])
    generalize upd G0 p1 (.lst [.non, .bl true, .bl false, .int 0, .int 1, .int (-1), .int 10000, .int 10001, .int (10 ^ (59 : Int).toNat), .str "", .str "a", .str "A", .str "exact", .str "open", .str "page"]) = G1 at y0 e_p1 ⊢
    refine ⟨_, rfl, ?_⟩
    refine ⟨(show 2 ≤ sizeLine by decide), fun q2 m_q2 => ?_⟩
    have y1 := Same.new (H := G1) (o := .lst [.str "section", .str "to"]) m_q2
    have e_q2 := upd_same (H := G1) (a := q2) (o := .lst [.str "section", .str "to"])
    generalize upd G1 q2 (.lst [.str "section", .str "to"]) = G2 at y1 e_q2 ⊢
    refine ⟨p1, q2, _, _, rfl, rfl, (y1 _ _ e_p1), e_q2, (show 17 ≤ sizeLine by decide), fun p2 m_p2 => ?_⟩
    have y2 := Same.new (H := G2) (o := .lst ([.non, .bl true, .bl false, .int 0, .int 1, .int (-1), .int 10000, .int 10001, .int (10 ^ (59 : Int).toNat), .str "", .str "a", .str "A", .str "exact", .str "open", .str "page"] ++ [.str "section", .str "to"])) m_p2
    have e_p2 := upd_same (H := G2) (a := p2) (o := .lst ([.non, .bl true, .bl false, .int 0, .int 1, .int (-1), .int 10000, .int 10001, .int (10 ^ (59 : Int).toNat), .str "", .str "a", .str "A", .str "exact", .str "open", .str "page"] ++ [.str "section", .str "to"]))
    generalize upd G2 p2 (.lst ([.non, .bl true, .bl false, .int 0, .int 1, .int (-1), .int 10000, .int 10001, .int (10 ^ (59 : Int).toNat), .str "", .str "a", .str "A", .str "exact", .str "open", .str "page"] ++ [.str "section", .str "to"])) = G3 at y2 e_p2 ⊢
    have e_p2 : G3 p2 = some (.lst [.non, .bl true, .bl false, .int 0, .int 1, .int (-1), .int 10000, .int 10001, .int (10 ^ (59 : Int).toNat), .str "", .str "a", .str "A", .str "exact", .str "open", .str "page", .str "section", .str "to"]) := e_p2
    refine ⟨_, rfl, ?_⟩
    refine ⟨(show 0 ≤ sizeLine by decide), fun t0 m_t0 => ?_⟩
    have y3 := Same.new (H := G3) (o := .tup []) m_t0
    have e_t0 := upd_same (H := G3) (a := t0) (o := .tup [])
    generalize upd G3 t0 (.tup []) = G4 at y3 e_t0 ⊢
    refine ⟨(show 1 ≤ sizeLine by decide), fun t1 m_t1 => ?_⟩
    have y4 := Same.new (H := G4) (o := .tup [.str "a"]) m_t1
    have e_t1 := upd_same (H := G4) (a := t1) (o := .tup [.str "a"])
    generalize upd G4 t1 (.tup [.str "a"]) = G5 at y4 e_t1 ⊢
    refine ⟨(show 1 ≤ sizeLine by decide), fun t2 m_t2 s_t2 => ?_⟩
    have y5 := Same.new (H := G5) (o := .lst [.str "a"]) m_t2
    have e_t2 := upd_same (H := G5) (a := t2) (o := .lst [.str "a"])
    generalize upd G5 t2 (.lst [.str "a"]) = G6 at y5 e_t2 ⊢
    refine ⟨(show 1 ≤ sizeLine by decide), fun t3 m_t3 => ?_⟩
    have y6 := Same.new (H := G6) (o := .tup [.str "gone"]) m_t3
    have e_t3 := upd_same (H := G6) (a := t3) (o := .tup [.str "gone"])
    generalize upd G6 t3 (.tup [.str "gone"]) = G7 at y6 e_t3 ⊢
    refine ⟨(show 1 ≤ sizeLine by decide), fun t4 m_t4 => ?_⟩
    have y7 := Same.new (H := G7) (o := .tup [.str "nothing"]) m_t4
    have e_t4 := upd_same (H := G7) (a := t4) (o := .tup [.str "nothing"])
    generalize upd G7 t4 (.tup [.str "nothing"]) = G8 at y7 e_t4 ⊢
    refine ⟨(show 1 ≤ sizeLine by decide), fun t5 m_t5 s_t5 => ?_⟩
    have y8 := Same.new (H := G8) (o := .lst [.str "gone"]) m_t5
    have e_t5 := upd_same (H := G8) (a := t5) (o := .lst [.str "gone"])
    generalize upd G8 t5 (.lst [.str "gone"]) = G9 at y8 e_t5 ⊢
    refine ⟨(show 2 ≤ sizeLine by decide), fun t6 m_t6 => ?_⟩
    have y9 := Same.new (H := G9) (o := .tup [.str "page", .str "a"]) m_t6
    have e_t6 := upd_same (H := G9) (a := t6) (o := .tup [.str "page", .str "a"])
    generalize upd G9 t6 (.tup [.str "page", .str "a"]) = G10 at y9 e_t6 ⊢
    refine ⟨(show 7 ≤ sizeLine by decide), fun q3 m_q3 => ?_⟩
    have y10 := Same.new (H := G10) (o := .lst [.ref t0, .ref t1, .ref t2, .ref t3, .ref t4, .ref t5, .ref t6]) m_q3
    have e_q3 := upd_same (H := G10) (a := q3) (o := .lst [.ref t0, .ref t1, .ref t2, .ref t3, .ref t4, .ref t5, .ref t6])
    generalize upd G10 q3 (.lst [.ref t0, .ref t1, .ref t2, .ref t3, .ref t4, .ref t5, .ref t6]) = G11 at y10 e_q3 ⊢
    refine ⟨p2, q3, _, _, rfl, rfl, (y10 _ _ (y9 _ _ (y8 _ _ (y7 _ _ (y6 _ _ (y5 _ _ (y4 _ _ (y3 _ _ e_p2)))))))), e_q3, (show 24 ≤ sizeLine by decide), fun p3 m_p3 => ?_⟩
    have y11 := Same.new (H := G11) (o := .lst ([.non, .bl true, .bl false, .int 0, .int 1, .int (-1), .int 10000, .int 10001, .int (10 ^ (59 : Int).toNat), .str "", .str "a", .str "A", .str "exact", .str "open", .str "page", .str "section", .str "to"] ++ [.ref t0, .ref t1, .ref t2, .ref t3, .ref t4, .ref t5, .ref t6])) m_p3
    have e_p3 := upd_same (H := G11) (a := p3) (o := .lst ([.non, .bl true, .bl false, .int 0, .int 1, .int (-1), .int 10000, .int 10001, .int (10 ^ (59 : Int).toNat), .str "", .str "a", .str "A", .str "exact", .str "open", .str "page", .str "section", .str "to"] ++ [.ref t0, .ref t1, .ref t2, .ref t3, .ref t4, .ref t5, .ref t6]))
    generalize upd G11 p3 (.lst ([.non, .bl true, .bl false, .int 0, .int 1, .int (-1), .int 10000, .int 10001, .int (10 ^ (59 : Int).toNat), .str "", .str "a", .str "A", .str "exact", .str "open", .str "page", .str "section", .str "to"] ++ [.ref t0, .ref t1, .ref t2, .ref t3, .ref t4, .ref t5, .ref t6])) = G12 at y11 e_p3 ⊢
    have e_p3 : G12 p3 = some (.lst [.non, .bl true, .bl false, .int 0, .int 1, .int (-1), .int 10000, .int 10001, .int (10 ^ (59 : Int).toNat), .str "", .str "a", .str "A", .str "exact", .str "open", .str "page", .str "section", .str "to", .ref t0, .ref t1, .ref t2, .ref t3, .ref t4, .ref t5, .ref t6]) := e_p3
    refine ⟨_, rfl, ?_⟩
    refine ⟨(show 2 ≤ sizeLine by decide), fun t7 m_t7 => ?_⟩
    have y12 := Same.new (H := G12) (o := .tup [.str "section", .str "s"]) m_t7
    have e_t7 := upd_same (H := G12) (a := t7) (o := .tup [.str "section", .str "s"])
    generalize upd G12 t7 (.tup [.str "section", .str "s"]) = G13 at y12 e_t7 ⊢
    refine ⟨(show 1 ≤ sizeLine by decide), fun q4 m_q4 => ?_⟩
    have y13 := Same.new (H := G13) (o := .lst [.ref t7]) m_q4
    have e_q4 := upd_same (H := G13) (a := q4) (o := .lst [.ref t7])
    generalize upd G13 q4 (.lst [.ref t7]) = G14 at y13 e_q4 ⊢
    refine ⟨p3, q4, _, _, rfl, rfl, (y13 _ _ (y12 _ _ e_p3)), e_q4, (show 25 ≤ sizeLine by decide), fun p4 m_p4 => ?_⟩
    have y14 := Same.new (H := G14) (o := .lst ([.non, .bl true, .bl false, .int 0, .int 1, .int (-1), .int 10000, .int 10001, .int (10 ^ (59 : Int).toNat), .str "", .str "a", .str "A", .str "exact", .str "open", .str "page", .str "section", .str "to", .ref t0, .ref t1, .ref t2, .ref t3, .ref t4, .ref t5, .ref t6] ++ [.ref t7])) m_p4
    have e_p4 := upd_same (H := G14) (a := p4) (o := .lst ([.non, .bl true, .bl false, .int 0, .int 1, .int (-1), .int 10000, .int 10001, .int (10 ^ (59 : Int).toNat), .str "", .str "a", .str "A", .str "exact", .str "open", .str "page", .str "section", .str "to", .ref t0, .ref t1, .ref t2, .ref t3, .ref t4, .ref t5, .ref t6] ++ [.ref t7]))
    generalize upd G14 p4 (.lst ([.non, .bl true, .bl false, .int 0, .int 1, .int (-1), .int 10000, .int 10001, .int (10 ^ (59 : Int).toNat), .str "", .str "a", .str "A", .str "exact", .str "open", .str "page", .str "section", .str "to", .ref t0, .ref t1, .ref t2, .ref t3, .ref t4, .ref t5, .ref t6] ++ [.ref t7])) = G15 at y14 e_p4 ⊢
    have e_p4 : G15 p4 = some (.lst [.non, .bl true, .bl false, .int 0, .int 1, .int (-1), .int 10000, .int 10001, .int (10 ^ (59 : Int).toNat), .str "", .str "a", .str "A", .str "exact", .str "open", .str "page", .str "section", .str "to", .ref t0, .ref t1, .ref t2, .ref t3, .ref t4, .ref t5, .ref t6, .ref t7]) := e_p4
    refine ⟨_, rfl, Or.inl ⟨rfl, _, Or.inl (Or.inl e_p4)⟩, ?_⟩
    refine ⟨(show 1 ≤ sizeLine by decide), fun t8 m_t8 => ?_⟩
    have y15 := Same.new (H := G15) (o := .tup [.str "a"]) m_t8
    have e_t8 := upd_same (H := G15) (a := t8) (o := .tup [.str "a"])
    generalize upd G15 t8 (.tup [.str "a"]) = G16 at y15 e_t8 ⊢
    refine ⟨(show 3 ≤ sizeLine by decide), fun t9 m_t9 => ?_⟩
    have y16 := Same.new (H := G16) (o := .tup [.str "to", .ref t8, .int 0]) m_t9
    have e_t9 := upd_same (H := G16) (a := t9) (o := .tup [.str "to", .ref t8, .int 0])
    generalize upd G16 t9 (.tup [.str "to", .ref t8, .int 0]) = G17 at y16 e_t9 ⊢
    refine ⟨p4, _, _, rfl, rfl, (y16 _ _ (y15 _ _ e_p4)), (show 25 < sizeLine by decide), ?_⟩
    have a_p4 := (y16 _ _ (y15 _ _ e_p4))
    have a_t0 := (y16 _ _ (y15 _ _ (y14 _ _ (y13 _ _ (y12 _ _ (y11 _ _ (y10 _ _ (y9 _ _ (y8 _ _ (y7 _ _ (y6 _ _ (y5 _ _ (y4 _ _ e_t0)))))))))))))
    have a_t1 := (y16 _ _ (y15 _ _ (y14 _ _ (y13 _ _ (y12 _ _ (y11 _ _ (y10 _ _ (y9 _ _ (y8 _ _ (y7 _ _ (y6 _ _ (y5 _ _ e_t1))))))))))))
    have a_t2 := (y16 _ _ (y15 _ _ (y14 _ _ (y13 _ _ (y12 _ _ (y11 _ _ (y10 _ _ (y9 _ _ (y8 _ _ (y7 _ _ (y6 _ _ e_t2)))))))))))
    have a_t3 := (y16 _ _ (y15 _ _ (y14 _ _ (y13 _ _ (y12 _ _ (y11 _ _ (y10 _ _ (y9 _ _ (y8 _ _ (y7 _ _ e_t3))))))))))
    have a_t4 := (y16 _ _ (y15 _ _ (y14 _ _ (y13 _ _ (y12 _ _ (y11 _ _ (y10 _ _ (y9 _ _ (y8 _ _ e_t4)))))))))
    have a_t5 := (y16 _ _ (y15 _ _ (y14 _ _ (y13 _ _ (y12 _ _ (y11 _ _ (y10 _ _ (y9 _ _ e_t5))))))))
    have a_t6 := (y16 _ _ (y15 _ _ (y14 _ _ (y13 _ _ (y12 _ _ (y11 _ _ (y10 _ _ e_t6)))))))
    have a_t7 := (y16 _ _ (y15 _ _ (y14 _ _ (y13 _ _ e_t7))))
    have a_t8 := (y16 _ _ e_t8)
    have a_t9 := e_t9
    have wA : Same G0 G17 := fun b o e => y16 _ _ (y15 _ _ (y14 _ _ (y13 _ _ (y12 _ _ (y11 _ _ (y10 _ _ (y9 _ _ (y8 _ _ (y7 _ _ (y6 _ _ (y5 _ _ (y4 _ _ (y3 _ _ (y2 _ _ (y1 _ _ (y0 _ _ (e)))))))))))))))))
    have hwA : Well G17 wa := hw.same wA
    have nH : G0 p4 = none := by
      cases z : G0 p4 with
      | none => rfl
      | some o => exact absurd (y13 _ _ (y12 _ _ (y11 _ _ (y10 _ _ (y9 _ _ (y8 _ _ (y7 _ _ (y6 _ _ (y5 _ _ (y4 _ _ (y3 _ _ (y2 _ _ (y1 _ _ (y0 _ _ (z))))))))))))))) (by rw [m_p4]; intro q; cases q)
    have b_t0 := (upd_ne (H := G17) (o := .lst ([.non, .bl true, .bl false, .int 0, .int 1, .int (-1), .int 10000, .int 10001, .int (10 ^ (59 : Int).toNat), .str "", .str "a", .str "A", .str "exact", .str "open", .str "page", .str "section", .str "to", .ref t0, .ref t1, .ref t2, .ref t3, .ref t4, .ref t5, .ref t6, .ref t7] ++ [.ref t9])) (ne_at a_t0 a_p4 (fun e => by cases e))).trans a_t0
    have b_t1 := (upd_ne (H := G17) (o := .lst ([.non, .bl true, .bl false, .int 0, .int 1, .int (-1), .int 10000, .int 10001, .int (10 ^ (59 : Int).toNat), .str "", .str "a", .str "A", .str "exact", .str "open", .str "page", .str "section", .str "to", .ref t0, .ref t1, .ref t2, .ref t3, .ref t4, .ref t5, .ref t6, .ref t7] ++ [.ref t9])) (ne_at a_t1 a_p4 (fun e => by cases e))).trans a_t1
    have b_t2 := (upd_ne (H := G17) (o := .lst ([.non, .bl true, .bl false, .int 0, .int 1, .int (-1), .int 10000, .int 10001, .int (10 ^ (59 : Int).toNat), .str "", .str "a", .str "A", .str "exact", .str "open", .str "page", .str "section", .str "to", .ref t0, .ref t1, .ref t2, .ref t3, .ref t4, .ref t5, .ref t6, .ref t7] ++ [.ref t9])) (ne_at a_t2 a_p4 (fun e => by cases e))).trans a_t2
    have b_t3 := (upd_ne (H := G17) (o := .lst ([.non, .bl true, .bl false, .int 0, .int 1, .int (-1), .int 10000, .int 10001, .int (10 ^ (59 : Int).toNat), .str "", .str "a", .str "A", .str "exact", .str "open", .str "page", .str "section", .str "to", .ref t0, .ref t1, .ref t2, .ref t3, .ref t4, .ref t5, .ref t6, .ref t7] ++ [.ref t9])) (ne_at a_t3 a_p4 (fun e => by cases e))).trans a_t3
    have b_t4 := (upd_ne (H := G17) (o := .lst ([.non, .bl true, .bl false, .int 0, .int 1, .int (-1), .int 10000, .int 10001, .int (10 ^ (59 : Int).toNat), .str "", .str "a", .str "A", .str "exact", .str "open", .str "page", .str "section", .str "to", .ref t0, .ref t1, .ref t2, .ref t3, .ref t4, .ref t5, .ref t6, .ref t7] ++ [.ref t9])) (ne_at a_t4 a_p4 (fun e => by cases e))).trans a_t4
    have b_t5 := (upd_ne (H := G17) (o := .lst ([.non, .bl true, .bl false, .int 0, .int 1, .int (-1), .int 10000, .int 10001, .int (10 ^ (59 : Int).toNat), .str "", .str "a", .str "A", .str "exact", .str "open", .str "page", .str "section", .str "to", .ref t0, .ref t1, .ref t2, .ref t3, .ref t4, .ref t5, .ref t6, .ref t7] ++ [.ref t9])) (ne_at a_t5 a_p4 (fun e => by cases e))).trans a_t5
    have b_t6 := (upd_ne (H := G17) (o := .lst ([.non, .bl true, .bl false, .int 0, .int 1, .int (-1), .int 10000, .int 10001, .int (10 ^ (59 : Int).toNat), .str "", .str "a", .str "A", .str "exact", .str "open", .str "page", .str "section", .str "to", .ref t0, .ref t1, .ref t2, .ref t3, .ref t4, .ref t5, .ref t6, .ref t7] ++ [.ref t9])) (ne_at a_t6 a_p4 (fun e => by cases e))).trans a_t6
    have b_t7 := (upd_ne (H := G17) (o := .lst ([.non, .bl true, .bl false, .int 0, .int 1, .int (-1), .int 10000, .int 10001, .int (10 ^ (59 : Int).toNat), .str "", .str "a", .str "A", .str "exact", .str "open", .str "page", .str "section", .str "to", .ref t0, .ref t1, .ref t2, .ref t3, .ref t4, .ref t5, .ref t6, .ref t7] ++ [.ref t9])) (ne_at a_t7 a_p4 (fun e => by cases e))).trans a_t7
    have b_t8 := (upd_ne (H := G17) (o := .lst ([.non, .bl true, .bl false, .int 0, .int 1, .int (-1), .int 10000, .int 10001, .int (10 ^ (59 : Int).toNat), .str "", .str "a", .str "A", .str "exact", .str "open", .str "page", .str "section", .str "to", .ref t0, .ref t1, .ref t2, .ref t3, .ref t4, .ref t5, .ref t6, .ref t7] ++ [.ref t9])) (ne_at a_t8 a_p4 (fun e => by cases e))).trans a_t8
    have b_t9 := (upd_ne (H := G17) (o := .lst ([.non, .bl true, .bl false, .int 0, .int 1, .int (-1), .int 10000, .int 10001, .int (10 ^ (59 : Int).toNat), .str "", .str "a", .str "A", .str "exact", .str "open", .str "page", .str "section", .str "to", .ref t0, .ref t1, .ref t2, .ref t3, .ref t4, .ref t5, .ref t6, .ref t7] ++ [.ref t9])) (ne_at a_t9 a_p4 (fun e => by cases e))).trans a_t9
    have wB : Sb wa G0 (upd G17 p4 (.lst ([.non, .bl true, .bl false, .int 0, .int 1, .int (-1), .int 10000, .int 10001, .int (10 ^ (59 : Int).toNat), .str "", .str "a", .str "A", .str "exact", .str "open", .str "page", .str "section", .str "to", .ref t0, .ref t1, .ref t2, .ref t3, .ref t4, .ref t5, .ref t6, .ref t7] ++ [.ref t9]))) := fun b o n e => (upd_ne (ne_of_none e nH)).trans (wA b o e)
    have hwB : Well (upd G17 p4 (.lst ([.non, .bl true, .bl false, .int 0, .int 1, .int (-1), .int 10000, .int 10001, .int (10 ^ (59 : Int).toNat), .str "", .str "a", .str "A", .str "exact", .str "open", .str "page", .str "section", .str "to", .ref t0, .ref t1, .ref t2, .ref t3, .ref t4, .ref t5, .ref t6, .ref t7] ++ [.ref t9]))) wa := by
      obtain ⟨d, m, h1, h2⟩ := hwA
      exact ⟨d, m, (upd_ne (ne_at h1 a_p4 (fun e => by cases e))).trans h1, h2⟩
    have b_p4 : (upd G17 p4 (.lst ([.non, .bl true, .bl false, .int 0, .int 1, .int (-1), .int 10000, .int 10001, .int (10 ^ (59 : Int).toNat), .str "", .str "a", .str "A", .str "exact", .str "open", .str "page", .str "section", .str "to", .ref t0, .ref t1, .ref t2, .ref t3, .ref t4, .ref t5, .ref t6, .ref t7] ++ [.ref t9]))) p4 = some (.lst [.non, .bl true, .bl false, .int 0, .int 1, .int (-1), .int 10000, .int 10001, .int (10 ^ (59 : Int).toNat), .str "", .str "a", .str "A", .str "exact", .str "open", .str "page", .str "section", .str "to", .ref t0, .ref t1, .ref t2, .ref t3, .ref t4, .ref t5, .ref t6, .ref t7, .ref t9]) := upd_same
    generalize upd G17 p4 (.lst ([.non, .bl true, .bl false, .int 0, .int 1, .int (-1), .int 10000, .int 10001, .int (10 ^ (59 : Int).toNat), .str "", .str "a", .str "A", .str "exact", .str "open", .str "page", .str "section", .str "to", .ref t0, .ref t1, .ref t2, .ref t3, .ref t4, .ref t5, .ref t6, .ref t7] ++ [.ref t9])) = B0 at *
    refine ⟨_, rfl, _, rfl, ?_⟩
    have e_t0 := b_t0
    have e_t1 := b_t1
    have e_t2 := b_t2
    have e_t3 := b_t3
    have e_t4 := b_t4
    have e_t5 := b_t5
    have e_t6 := b_t6
    have e_t7 := b_t7
    have e_t8 := b_t8
    have e_t9 := b_t9
    have e_p4 := b_p4
    refine ⟨(show 1 ≤ sizeLine by decide), fun t10 m_t10 => ?_⟩
    have z0 := Same.new (H := B0) (o := .tup [.str "a"]) m_t10
    have e_t10 := upd_same (H := B0) (a := t10) (o := .tup [.str "a"])
    generalize upd B0 t10 (.tup [.str "a"]) = B1 at z0 e_t10 ⊢
    refine ⟨(show 2 ≤ sizeLine by decide), fun t11 m_t11 => ?_⟩
    have z1 := Same.new (H := B1) (o := .tup [.str "to", .ref t10]) m_t11
    have e_t11 := upd_same (H := B1) (a := t11) (o := .tup [.str "to", .ref t10])
    generalize upd B1 t11 (.tup [.str "to", .ref t10]) = B2 at z1 e_t11 ⊢
    intro t12 m_t12
    have z2 := Same.new (H := B2) (o := .dK []) m_t12
    have e_t12 := upd_same (H := B2) (a := t12) (o := .dK [])
    generalize upd B2 t12 (.dK []) = B3 at z2 e_t12 ⊢
    refine ⟨(show 5 ≤ sizeLine by decide), fun t13 m_t13 => ?_⟩
    have z3 := Same.new (H := B3) (o := .tup [.str "a", .str "b", .str "c", .str "d", .str "e"]) m_t13
    have e_t13 := upd_same (H := B3) (a := t13) (o := .tup [.str "a", .str "b", .str "c", .str "d", .str "e"])
    generalize upd B3 t13 (.tup [.str "a", .str "b", .str "c", .str "d", .str "e"]) = B4 at z3 e_t13 ⊢
    refine ⟨(show 1 ≤ sizeLine by decide), fun t14 m_t14 s_t14 => ?_⟩
    have z4 := Same.new (H := B4) (o := .lst [.str "a"]) m_t14
    have e_t14 := upd_same (H := B4) (a := t14) (o := .lst [.str "a"])
    generalize upd B4 t14 (.lst [.str "a"]) = B5 at z4 e_t14 ⊢
    refine ⟨(show 3 ≤ sizeLine by decide), fun t15 m_t15 => ?_⟩
    have z5 := Same.new (H := B5) (o := .tup [.str "to", .ref t14, .int 0]) m_t15
    have e_t15 := upd_same (H := B5) (a := t15) (o := .tup [.str "to", .ref t14, .int 0])
    generalize upd B5 t15 (.tup [.str "to", .ref t14, .int 0]) = B6 at z5 e_t15 ⊢
    refine ⟨(show 3 ≤ sizeLine by decide), fun t16 m_t16 => ?_⟩
    have z6 := Same.new (H := B6) (o := .tup [.str "page", .str "s", .int 0]) m_t16
    have e_t16 := upd_same (H := B6) (a := t16) (o := .tup [.str "page", .str "s", .int 0])
    generalize upd B6 t16 (.tup [.str "page", .str "s", .int 0]) = B7 at z6 e_t16 ⊢
    refine ⟨(show 5 ≤ sizeLine by decide), fun q6 m_q6 => ?_⟩
    have z7 := Same.new (H := B7) (o := .lst [.ref t11, .ref t12, .ref t13, .ref t15, .ref t16]) m_q6
    have e_q6 := upd_same (H := B7) (a := q6) (o := .lst [.ref t11, .ref t12, .ref t13, .ref t15, .ref t16])
    generalize upd B7 q6 (.lst [.ref t11, .ref t12, .ref t13, .ref t15, .ref t16]) = B8 at z7 e_q6 ⊢
    refine ⟨p4, q6, _, _, rfl, rfl, (z7 _ _ (z6 _ _ (z5 _ _ (z4 _ _ (z3 _ _ (z2 _ _ (z1 _ _ (z0 _ _ e_p4)))))))), e_q6, (show 31 ≤ sizeLine by decide), fun p6 m_p6 => ?_⟩
    have z8 := Same.new (H := B8) (o := .lst ([.non, .bl true, .bl false, .int 0, .int 1, .int (-1), .int 10000, .int 10001, .int (10 ^ (59 : Int).toNat), .str "", .str "a", .str "A", .str "exact", .str "open", .str "page", .str "section", .str "to", .ref t0, .ref t1, .ref t2, .ref t3, .ref t4, .ref t5, .ref t6, .ref t7, .ref t9] ++ [.ref t11, .ref t12, .ref t13, .ref t15, .ref t16])) m_p6
    have e_p6 := upd_same (H := B8) (a := p6) (o := .lst ([.non, .bl true, .bl false, .int 0, .int 1, .int (-1), .int 10000, .int 10001, .int (10 ^ (59 : Int).toNat), .str "", .str "a", .str "A", .str "exact", .str "open", .str "page", .str "section", .str "to", .ref t0, .ref t1, .ref t2, .ref t3, .ref t4, .ref t5, .ref t6, .ref t7, .ref t9] ++ [.ref t11, .ref t12, .ref t13, .ref t15, .ref t16]))
    generalize upd B8 p6 (.lst ([.non, .bl true, .bl false, .int 0, .int 1, .int (-1), .int 10000, .int 10001, .int (10 ^ (59 : Int).toNat), .str "", .str "a", .str "A", .str "exact", .str "open", .str "page", .str "section", .str "to", .ref t0, .ref t1, .ref t2, .ref t3, .ref t4, .ref t5, .ref t6, .ref t7, .ref t9] ++ [.ref t11, .ref t12, .ref t13, .ref t15, .ref t16])) = B9 at z8 e_p6 ⊢
    have e_p6 : B9 p6 = some (.lst [.non, .bl true, .bl false, .int 0, .int 1, .int (-1), .int 10000, .int 10001, .int (10 ^ (59 : Int).toNat), .str "", .str "a", .str "A", .str "exact", .str "open", .str "page", .str "section", .str "to", .ref t0, .ref t1, .ref t2, .ref t3, .ref t4, .ref t5, .ref t6, .ref t7, .ref t9, .ref t11, .ref t12, .ref t13, .ref t15, .ref t16]) := e_p6
    have wF : Sb wa G0 B9 := fun b o n e => z8 _ _ (z7 _ _ (z6 _ _ (z5 _ _ (z4 _ _ (z3 _ _ (z2 _ _ (z1 _ _ (z0 _ _ (wB b o n e)))))))))
    have hwF : Well B9 wa := hwB.same (fun b o e => z8 _ _ (z7 _ _ (z6 _ _ (z5 _ _ (z4 _ _ (z3 _ _ (z2 _ _ (z1 _ _ (z0 _ _ (e))))))))))
    have f_t0 := (z8 _ _ (z7 _ _ (z6 _ _ (z5 _ _ (z4 _ _ (z3 _ _ (z2 _ _ (z1 _ _ (z0 _ _ e_t0)))))))))
    have f_t1 := (z8 _ _ (z7 _ _ (z6 _ _ (z5 _ _ (z4 _ _ (z3 _ _ (z2 _ _ (z1 _ _ (z0 _ _ e_t1)))))))))
    have f_t2 := (z8 _ _ (z7 _ _ (z6 _ _ (z5 _ _ (z4 _ _ (z3 _ _ (z2 _ _ (z1 _ _ (z0 _ _ e_t2)))))))))
    have f_t3 := (z8 _ _ (z7 _ _ (z6 _ _ (z5 _ _ (z4 _ _ (z3 _ _ (z2 _ _ (z1 _ _ (z0 _ _ e_t3)))))))))
    have f_t4 := (z8 _ _ (z7 _ _ (z6 _ _ (z5 _ _ (z4 _ _ (z3 _ _ (z2 _ _ (z1 _ _ (z0 _ _ e_t4)))))))))
    have f_t5 := (z8 _ _ (z7 _ _ (z6 _ _ (z5 _ _ (z4 _ _ (z3 _ _ (z2 _ _ (z1 _ _ (z0 _ _ e_t5)))))))))
    have f_t6 := (z8 _ _ (z7 _ _ (z6 _ _ (z5 _ _ (z4 _ _ (z3 _ _ (z2 _ _ (z1 _ _ (z0 _ _ e_t6)))))))))
    have f_t7 := (z8 _ _ (z7 _ _ (z6 _ _ (z5 _ _ (z4 _ _ (z3 _ _ (z2 _ _ (z1 _ _ (z0 _ _ e_t7)))))))))
    have f_t8 := (z8 _ _ (z7 _ _ (z6 _ _ (z5 _ _ (z4 _ _ (z3 _ _ (z2 _ _ (z1 _ _ (z0 _ _ e_t8)))))))))
    have f_t9 := (z8 _ _ (z7 _ _ (z6 _ _ (z5 _ _ (z4 _ _ (z3 _ _ (z2 _ _ (z1 _ _ (z0 _ _ e_t9)))))))))
    have f_t10 := (z8 _ _ (z7 _ _ (z6 _ _ (z5 _ _ (z4 _ _ (z3 _ _ (z2 _ _ (z1 _ _ e_t10))))))))
    have f_t11 := (z8 _ _ (z7 _ _ (z6 _ _ (z5 _ _ (z4 _ _ (z3 _ _ (z2 _ _ e_t11)))))))
    have f_t12 := (z8 _ _ (z7 _ _ (z6 _ _ (z5 _ _ (z4 _ _ (z3 _ _ e_t12))))))
    have f_t13 := (z8 _ _ (z7 _ _ (z6 _ _ (z5 _ _ (z4 _ _ e_t13)))))
    have f_t14 := (z8 _ _ (z7 _ _ (z6 _ _ (z5 _ _ e_t14))))
    have f_t15 := (z8 _ _ (z7 _ _ (z6 _ _ e_t15)))
    have f_t16 := (z8 _ _ (z7 _ _ e_t16))
    have f_p6 := e_p6
    refine ⟨wa, p6, _, rfl, hwF, .of f_p6, (by intro e; cases e), (show 31 ≤ 1000 by decide), fun v H' hv W' s' => q v H' (AnyD.sb hwF s' ?_) W' (wF.trans s')⟩
    clear q W' s'
    simp only [List.mem_cons, List.not_mem_nil, or_false] at hv
    rcases hv with rfl | rfl | rfl | rfl | rfl | rfl | rfl | rfl | rfl | rfl | rfl | rfl | rfl | rfl | rfl | rfl | rfl | rfl | rfl | rfl | rfl | rfl | rfl | rfl | rfl | rfl | rfl | rfl | rfl | rfl | rfl
    · exact ⟨_, .non, by decide +kernel, by decide +kernel⟩
    · exact ⟨_, .bl _, by decide +kernel, by decide +kernel⟩
    · exact ⟨_, .bl _, by decide +kernel, by decide +kernel⟩
    · exact ⟨_, .int _, by decide +kernel, by decide +kernel⟩
    · exact ⟨_, .int _, by decide +kernel, by decide +kernel⟩
    · exact ⟨_, .int _, by decide +kernel, by decide +kernel⟩
    · exact ⟨_, .int _, by decide +kernel, by decide +kernel⟩
    · exact ⟨_, .int _, by decide +kernel, by decide +kernel⟩
    · exact ⟨_, .int _, by decide +kernel, by decide +kernel⟩
    · exact ⟨_, .str _, by decide +kernel, by decide +kernel⟩
    · exact ⟨_, .str _, by decide +kernel, by decide +kernel⟩
    · exact ⟨_, .str _, by decide +kernel, by decide +kernel⟩
    · exact ⟨_, .str _, by decide +kernel, by decide +kernel⟩
    · exact ⟨_, .str _, by decide +kernel, by decide +kernel⟩
    · exact ⟨_, .str _, by decide +kernel, by decide +kernel⟩
    · exact ⟨_, .str _, by decide +kernel, by decide +kernel⟩
    · exact ⟨_, .str _, by decide +kernel, by decide +kernel⟩
    · exact ⟨_, .tup (.of f_t0) .nil, by decide +kernel, by decide +kernel⟩
    · exact ⟨_, .tup (.of f_t1) (.cons (.str _) .nil), by decide +kernel, by decide +kernel⟩
    · exact ⟨_, .lst (.of f_t2) s_t2 (.cons (.str _) .nil), by decide +kernel, by decide +kernel⟩
    · exact ⟨_, .tup (.of f_t3) (.cons (.str _) .nil), by decide +kernel, by decide +kernel⟩
    · exact ⟨_, .tup (.of f_t4) (.cons (.str _) .nil), by decide +kernel, by decide +kernel⟩
    · exact ⟨_, .lst (.of f_t5) s_t5 (.cons (.str _) .nil), by decide +kernel, by decide +kernel⟩
    · exact ⟨_, .tup (.of f_t6) (.cons (.str _) (.cons (.str _) .nil)), by decide +kernel, by decide +kernel⟩
    · exact ⟨_, .tup (.of f_t7) (.cons (.str _) (.cons (.str _) .nil)), by decide +kernel, by decide +kernel⟩
    · exact ⟨_, .tup (.of f_t9) (.cons (.str _) (.cons (.tup (.of f_t8) (.cons (.str _) .nil)) (.cons (.int _) .nil))), by decide +kernel, by decide +kernel⟩
    · exact ⟨_, .tup (.of f_t11) (.cons (.str _) (.cons (.tup (.of f_t10) (.cons (.str _) .nil)) .nil)), by decide +kernel, by decide +kernel⟩
    · exact ⟨_, .dct (ds := []) f_t12 (fun e => by cases e) .nil, by decide +kernel, by decide +kernel⟩
    · exact ⟨_, .tup (.of f_t13) (.cons (.str _) (.cons (.str _) (.cons (.str _) (.cons (.str _) (.cons (.str _) .nil))))), by decide +kernel, by decide +kernel⟩
    · exact ⟨_, .tup (.of f_t15) (.cons (.str _) (.cons (.lst (.of f_t14) s_t14 (.cons (.str _) .nil)) (.cons (.int _) .nil))), by decide +kernel, by decide +kernel⟩
    · exact ⟨_, .tup (.of f_t16) (.cons (.str _) (.cons (.str _) (.cons (.int _) .nil))), by decide +kernel, by decide +kernel⟩
end
end K4
namespace K4
open PySem L2 Ld
abbrev sAddress : Stmt := top 27
abbrev sRuleOf : Stmt := top 28
def menu4 : List Str := ["a", "b", "aa", "c"]
/-- words of the menu, at most m -/
def Adr4 (m : Nat) (ws : List Str) : Prop := ws.length ≤ m ∧ ∀ z ∈ ws, z ∈ menu4
def wt (ws : List Str) : PyData := .tuple (ws.map PyData.str)
theorem dd_strs {K : PySem.W.Frag} {H : Hp} : ∀ ws : List Str, DdAll K H (ws.map V.str) (ws.map PyData.str)
  | [] => .nil
  | w :: ws => .cons (.str w) (dd_strs ws)
section
variable {P : Program} {w : World} {K : PySem.W.Frag} {mg : Str → Option Value} {base : Heap} {f : Addr} {fd : FuncData}
def spAddress (K : PySem.W.Frag) : Sp := fun vs H Q _ => ∃ (wa : Addr) (m : Nat), vs = [.ref wa, .int (m : Int)] ∧ m ≤ 20 ∧ Well H wa ∧ ∀ (r : Addr) (ws : List Str) H', SqT K H' r (ws.map V.str) → Adr4 m ws → Well H' wa → Sb wa H H' → Q (.ref r) H'
theorem scAddress : FnScope ["_law_well_here", "_law_most", "_law_turn"] ["_law_well_here", "_law_most"] (defScope sAddress) := ⟨rfl, rfl, rfl, by decide +kernel, rfl, by decide +kernel, by decide +kernel⟩
theorem ok_address (Fd : Fun K "_law_address" "_law_address" sAddress f fd) (T : Tx mg) (D : Df P w K mg base 1 "_law_draw" ["_law_well_here", "_law_many"] spDraw) (C : Df P w K mg base 2 "_law_choose" ["_law_well_here", "_law_things"] (spChoose K)) :
    FnOk P w K mg base CX0 3 f fd ["_law_well_here", "_law_most"] (spAddress K) := by
  refine Fd.ok scAddress (fun vs H Q E h => ?_) (fun cdv A0 outer s H vs Q E hr h => ?_)
  · obtain ⟨wa, m, rfl, _⟩ := h
    rfl
  · obtain ⟨wa, m, rfl, hm, hw, q⟩ := h
    have nd := scAddress.nd
    refine ⟨_, pss_one (ps_ret (pe_callTy call_tuple_of (by rfl) T.tuple (by decide +kernel) (pa_cons (pe_lc (own := [("_law_turn", 2)]) (g := gName 2) (tt := tYes) (by rfl) nd
              (pi_range1 rfl T.range (pa_cons (pe_df D hr (pa_cons (pv 0) (pa_cons (pe_op op_add (pv 1) pe_int) pa_nil))) pa_nil)) (blkOk_by (own := [("_law_turn", 2)]) (N := ["_law_well_here", "_law_most", "_law_turn"]) (sc := defScope sAddress) (by decide +kernel))
              (fun _ _ _ _ _ => pg_name (i := 2) nd rfl (Or.inl rfl)) (fun _ _ _ _ _ => pts_nil) (fun _ _ _ _ _ => pe_df C hr (pa_cons (pv 0) (pa_cons (pe_lst (pa_cons pe_str (pa_cons pe_str (pa_cons pe_str (pa_cons pe_str pa_nil))))) pa_nil)))) pa_nil))), ?_⟩
    refine ⟨_, rfl, _, rfl, _, _, rfl, rfl, wa, (m : Int) + 1, rfl, hw, by omega, by omega, fun k G4 k0 k1 W4 s4 => ⟨k, rfl, by omega, by omega, fun D hD => ?_⟩⟩
    refine lc_range (lo := 0) (n := k.toNat) (fun i G => Sb wa G4 G ∧ Well G wa ∧ ∃ ws : List Str, G D = some (.lst (ws.map V.str)) ∧ (∀ z ∈ ws, z ∈ menu4) ∧ ws.length ≤ i) ⟨.of (Ld.Same.new hD), W4.same (Ld.Same.new hD), [], upd_same, (fun z hz => nomatch hz), Nat.le_refl _⟩ ?_ ?_
    · rintro e G hk ⟨sG4, WG, ws, hDl, hws, hwl⟩
      refine ⟨rfl, ?_⟩
      show tDf (spChoose K) (tCons (tVar 0) (tCons (tLst _) tNil)) _ _ _
      refine ⟨_, rfl, (show 4 ≤ sizeLine by decide), fun pm npm => ?_⟩
      have zm := Same.new (o := .lst (menu4.map V.str)) npm
      refine ⟨wa, pm, menu4.map V.str, rfl, WG.same zm, .of upd_same, by decide, (show 4 ≤ 1000 by decide), fun v G' hv W' s' => ?_⟩
      obtain ⟨z, hz, rfl⟩ := List.mem_map.mp hv
      have neD := WG.lst hDl
      have hD' := s' D _ neD (zm _ _ hDl)
      have hn : ws.length ≤ 20 := by omega
      refine ⟨_, hD', by rw [List.length_map]; exact Nat.lt_of_le_of_lt hn (by decide), fun b o nb eb => ?_, ?_, ws ++ [z], ?_, fun y hy => ?_, by simp; omega⟩
      · rw [upd_ne (ne_of_none eb hD)]
        exact s' b o nb (zm _ _ (sG4 b o nb eb))
      · obtain ⟨d, m, h1, h2⟩ := W'
        exact ⟨d, m, by rw [upd_ne neD.symm]; exact h1, h2⟩
      · rw [upd_same, List.map_append]
        rfl
      · rcases List.mem_append.mp hy with g | g
        · exact hws y g
        · rw [List.mem_singleton.mp g]
          exact hz
    · rintro G ⟨sG4, WG, ws, hDl, hws, hwl⟩
      refine ⟨D, _, rfl, .inl ⟨.of hDl, fun t nt => ?_⟩⟩
      have zt := Same.new (o := .tup (ws.map V.str)) nt
      exact q t ws _ (.of upd_same) ⟨by omega, hws⟩ (WG.same zt) (s4.trans (sG4.trans (.of zt)))
inductive Sort2 : Str → Str → Prop
  | page : Sort2 "exact" "page"
  | sect : Sort2 "open" "section"
/-- a drawn rule: places and targets of at most m words -/
inductive RuleOf (m : Nat) : PyData → Prop
  | gone {s o : Str} {ws : List Str} : Sort2 s o → Adr4 m ws → RuleOf m (.tuple [.str s, wt ws, .tuple [.str "gone"]])
  | own {s o n : Str} {ws : List Str} : Sort2 s o → Adr4 m ws → (n = "home" ∨ n = "s") → RuleOf m (.tuple [.str s, wt ws, .tuple [.str o, .str n]])
  | to {s o : Str} {ws us : List Str} {k : Int} : Sort2 s o → Adr4 m ws → Adr4 m us → (k = 0 ∨ k = 1 ∨ k = 3 ∨ k = 10000) → RuleOf m (.tuple [.str s, wt ws, .tuple [.str "to", wt us, .int k]])
theorem kind_at {s o : Str} (h : Sort2 s o) : atI [V.str "section", V.str "page"] (if (decide (V.str s = V.str "exact")) = true then 1 else 0) = some (.str o) := by
  cases h
  · exact at_of (j := 1) (by decide +kernel) rfl
  · exact at_of (j := 0) (by decide +kernel) rfl
def spRuleOf (K : PySem.W.Frag) : Sp := fun vs H Q _ => ∃ (wa : Addr) (m : Nat), vs = [.ref wa, .int (m : Int)] ∧ m ≤ 20 ∧ Well H wa ∧ ∀ (v : V) (d : PyData) H', Dd K H' v d → RuleOf m d → Well H' wa → Sb wa H H' → Q v H'
theorem scRuleOf : FnScope ["_law_well_here", "_law_most", "_law_sort", "_law_place", "_law_way"] ["_law_well_here", "_law_most"] (defScope sRuleOf) := ⟨rfl, rfl, rfl, by decide +kernel, rfl, by decide +kernel, by decide +kernel⟩
theorem ok_ruleOf (Fd : Fun K "_law_rule" "_law_rule" sRuleOf f fd) (T : Tx mg) (D : Df P w K mg base 1 "_law_draw" ["_law_well_here", "_law_many"] spDraw) (C : Df P w K mg base 2 "_law_choose" ["_law_well_here", "_law_things"] (spChoose K))
    (A : Df P w K mg base 3 "_law_address" ["_law_well_here", "_law_most"] (spAddress K)) : FnOk P w K mg base CX0 4 f fd ["_law_well_here", "_law_most"] (spRuleOf K) := by
  refine Fd.ok scRuleOf (fun vs H Q E h => ?_) (fun cdv A0 outer s H vs Q E hr h => ?_)
  · obtain ⟨wa, m, rfl, _⟩ := h
    rfl
  · obtain ⟨wa, m, rfl, hm, hw, q⟩ := h
    have nd := scRuleOf.nd
    refine ⟨_, pss_cons (ps_par (i := 2) (j := 3) (by rfl) nd rfl rfl (by decide) rfl rfl (pa_cons (pe_df C hr (pa_cons (pv 0) (pa_cons (pe_lst (pa_cons pe_str (pa_cons pe_str (pa_cons pe_str pa_nil)))) pa_nil))) (pa_cons (pe_df A hr (pa_cons (pv 0) (pa_cons (pv 1) pa_nil))) pa_nil)) (by rfl))
      (pss_cons (ps_set (i := 4) nd rfl (Or.inl rfl) (pe_df D hr (pa_cons (pv 0) (pa_cons pe_int pa_nil))))
      (pss_cons (ps_if (pt_cmpR op_eq (pv 4) pe_int (nomark _)) (pss_one (ps_ret (pe_tup (pa_cons (pv 2) (pa_cons (pv 3) (pa_cons (pe_tup (pa_cons pe_str pa_nil)) pa_nil)))))) pss_nil)
      (pss_cons (ps_if (pt_cmpR op_eq (pv 4) pe_int (nomark _)) (pss_one (ps_ret (pe_tup (pa_cons (pv 2) (pa_cons (pv 3) (pa_cons (pe_tup (pa_cons
          (pe_ix ix_list (pe_lst (pa_cons pe_str (pa_cons pe_str pa_nil))) (pe_callTy call_int1 (by rfl) T.int (by decide +kernel) (pa_cons (pe_cmpR op_eq (pv 2) pe_str (nomark _)) pa_nil)) (fun _ _ => rfl))
          (pa_cons (pe_df C hr (pa_cons (pv 0) (pa_cons (pe_lst (pa_cons pe_str (pa_cons pe_str pa_nil))) pa_nil))) pa_nil))) pa_nil)))))) pss_nil)
      (pss_one (ps_ret (pe_tup (pa_cons (pv 2) (pa_cons (pv 3) (pa_cons (pe_tup (pa_cons pe_str (pa_cons (pe_df A hr (pa_cons (pv 0) (pa_cons (pv 1) pa_nil)))
          (pa_cons (pe_df C hr (pa_cons (pv 0) (pa_cons (pe_lst (pa_cons pe_int (pa_cons pe_int (pa_cons pe_int (pa_cons pe_int (pa_cons pe_int pa_nil)))))) pa_nil))) pa_nil)))) pa_nil))))))))), ?_⟩
    refine ⟨_, rfl, (show 3 ≤ sizeLine by decide), fun l hl => ?_⟩
    have yl := Same.new (o := .lst [.str "exact", .str "open", .str "open"]) hl
    refine ⟨wa, l, _, rfl, hw.same yl, .of upd_same, by simp, (show 3 ≤ 1000 by decide), fun v H1 hv W1 s1 => ?_⟩
    have hso : ∃ s o : Str, v = .str s ∧ Sort2 s o := by
      simp only [List.mem_cons, List.not_mem_nil, or_false] at hv
      rcases hv with rfl | rfl | rfl
      · exact ⟨_, _, rfl, .page⟩
      · exact ⟨_, _, rfl, .sect⟩
      · exact ⟨_, _, rfl, .sect⟩
    obtain ⟨srt, own, rfl, so⟩ := hso
    have s01 := (Sb.of (wa := wa) yl).trans s1
    refine ⟨_, rfl, _, rfl, wa, m, rfl, hm, W1, fun r ws H2 hws had W2 s2 => ?_⟩
    have s02 := s01.trans s2
    refine ⟨_, _, rfl, _, rfl, wa, 6, rfl, W2, by decide, by decide, fun k H3 k0 k1 W3 s3 => ?_⟩
    have s03 := s02.trans s3
    have h3 := seqT W2 s3 hws
    refine ⟨_, rfl, rfl, _, rfl, ?_⟩
    refine ite2 (fun _ => ?_) (fun _ => ?_)
    · refine ⟨_, rfl, _, rfl, (show 1 ≤ sizeLine by decide), fun t ht => ⟨(show 3 ≤ sizeLine by decide), fun p hp => ?_⟩⟩
      have yt := Same.new (o := .tup [.str "gone"]) ht
      have yp := Same.new (o := .tup [.str srt, .ref r, .ref t]) hp
      have y := yt.trans yp
      exact q _ _ _ (.tup (.of upd_same) (.cons (.str _) (.cons (.tup (same_T y h3) (dd_strs ws)) (.cons (.tup (.of (yp _ _ upd_same)) (.cons (.str _) .nil)) .nil)))) (.gone so had) (W3.same y) (s03.trans (.of y))
    · refine ⟨_, rfl, rfl, _, rfl, ?_⟩
      refine ite2 (fun _ => ?_) (fun _ => ?_)
      · refine ⟨_, rfl, _, rfl, (show 2 ≤ sizeLine by decide), fun l2 hl2 => ?_⟩
        have y2 := Same.new (o := .lst [.str "section", .str "page"]) hl2
        refine ⟨_, rfl, rfl, .inr ⟨_, rfl, l2, _, _, _, rfl, rfl, .of upd_same, kind_at so, ?_⟩⟩
        refine ⟨_, rfl, (show 2 ≤ sizeLine by decide), fun l3 hl3 => ?_⟩
        have y3 := Same.new (o := .lst [.str "home", .str "s"]) hl3
        have y23 := y2.trans y3
        refine ⟨wa, l3, _, rfl, W3.same y23, .of upd_same, by simp, (show 2 ≤ 1000 by decide), fun v H5 hv W5 s5 => ?_⟩
        have hn : ∃ n : Str, v = .str n ∧ (n = "home" ∨ n = "s") := by
          simp only [List.mem_cons, List.not_mem_nil, or_false] at hv
          rcases hv with rfl | rfl
          · exact ⟨_, rfl, .inl rfl⟩
          · exact ⟨_, rfl, .inr rfl⟩
        obtain ⟨n, rfl, hn⟩ := hn
        refine ⟨(show 2 ≤ sizeLine by decide), fun t ht => ⟨(show 3 ≤ sizeLine by decide), fun p hp => ?_⟩⟩
        have yt := Same.new (o := .tup [.str own, .str n]) ht
        have yp := Same.new (o := .tup [.str srt, .ref r, .ref t]) hp
        have y := yt.trans yp
        exact q _ _ _ (.tup (.of upd_same) (.cons (.str _) (.cons (.tup (same_T y (seqT (W3.same y23) s5 (same_T y23 h3))) (dd_strs ws)) (.cons (.tup (.of (yp _ _ upd_same)) (.cons (.str _) (.cons (.str _) .nil))) .nil))))
          (.own so had hn) (W5.same y) (s03.trans ((Sb.of y23).trans (s5.trans (.of y))))
      · refine ⟨_, rfl, _, rfl, _, rfl, _, rfl, wa, m, rfl, hm, W3, fun r2 us H4 hus had2 W4 s4 => ?_⟩
        refine ⟨_, rfl, (show 5 ≤ sizeLine by decide), fun l3 hl3 => ?_⟩
        have y3 := Same.new (o := .lst [.int 0, .int 0, .int 1, .int 3, .int 10000]) hl3
        refine ⟨wa, l3, _, rfl, W4.same y3, .of upd_same, by simp, (show 5 ≤ 1000 by decide), fun v H5 hv W5 s5 => ?_⟩
        have hn : ∃ n : Int, v = .int n ∧ (n = 0 ∨ n = 1 ∨ n = 3 ∨ n = 10000) := by
          simp only [List.mem_cons, List.not_mem_nil, or_false] at hv
          rcases hv with rfl | rfl | rfl | rfl | rfl <;> exact ⟨_, rfl, by omega⟩
        obtain ⟨n, rfl, hn⟩ := hn
        refine ⟨(show 3 ≤ sizeLine by decide), fun t ht => ⟨(show 3 ≤ sizeLine by decide), fun p hp => ?_⟩⟩
        have yt := Same.new (o := .tup [.str "to", .ref r2, .int n]) ht
        have yp := Same.new (o := .tup [.str srt, .ref r, .ref t]) hp
        have y := yt.trans yp
        exact q _ _ _ (.tup (.of upd_same) (.cons (.str _) (.cons (.tup (same_T y (seqT (W4.same y3) s5 (same_T y3 (seqT W3 s4 h3)))) (dd_strs ws)) (.cons (.tup (.of (yp _ _ upd_same)) (.cons (.str _) (.cons (.tup (same_T y (seqT (W4.same y3) s5 (same_T y3 hus))) (dd_strs us)) (.cons (.int _) .nil)))) .nil))))
          (.to so had had2 hn) (W5.same y) (s03.trans (s4.trans ((Sb.of y3).trans (s5.trans (.of y)))))
end
end K4
namespace Ld
open PySem L2 PyProof.Rows
/-- list(a tuple): where the new list does not lie -/
theorem call_lstN {X : Cx} : CallR X (.type "list") (fun xs H Q => ∃ p ys, xs = [.ref p] ∧ SqT X.K H p ys ∧ ∀ l, H l = none → l ≠ sysModules → Q (.ref l) (upd H l (.lst ys))) := by
  intro pins s σ H xs us Q I r ⟨p, ys, e0, ht, q⟩
  subst e0
  obtain ⟨u0, rfl, rx0⟩ := vals1 r
  cases rx0
  obtain ⟨js, rj, tj, zj⟩ := I.tuple ht
  have lj := rj.length
  obtain ⟨oj, hoj, hcj, nj, hdj⟩ := tj
  refine call_list_seq p (.inr rfl) hoj hcj hdj (fun h1 c1 kp1 e1 => ?_) (by simp only [List.size_toArray]; omega)
  have J := I.laid (t' := s.toks) (a := s.heap.objs.size) (o := .lst ys) kp1 (Nat.le_refl _) ⟨zj, js, c1, rj, e1⟩
  exact ⟨.ref s.heap.objs.size, _, J, rfl, q _ I.fresh (Nat.ne_of_gt I.big)⟩
theorem DdAll.take {K : PySem.W.Frag} {H : Hp} : ∀ {xs : List V} {ds : List PyData}, DdAll K H xs ds → ∀ k, DdAll K H (xs.take k) (ds.take k)
  | _, _, .nil, k => by simpa using DdAll.nil
  | _, _, .cons a b, 0 => .nil
  | _, _, .cons a b, k + 1 => .cons a (b.take k)
theorem DdAll.drop {K : PySem.W.Frag} {H : Hp} : ∀ {xs : List V} {ds : List PyData}, DdAll K H xs ds → ∀ k, DdAll K H (xs.drop k) (ds.drop k)
  | _, _, .nil, k => by simpa using DdAll.nil
  | _, _, .cons a b, 0 => .cons a b
  | _, _, .cons a b, k + 1 => b.drop k
theorem cutV_lo (xs : List V) (k : Nat) : cutV xs none (some (k : Int)) = xs.take k := by
  unfold cutV
  rw [HT.sIx_none, HT.sIx_nat, List.drop_zero, Nat.sub_zero]
  by_cases h : k ≤ xs.length
  · rw [Nat.min_eq_left h]
  · rw [Nat.min_eq_right (by omega), List.take_length, List.take_of_length_le (by omega)]
theorem cutV_hi (xs : List V) (k : Nat) : cutV xs (some (k : Int)) none = xs.drop k := by
  unfold cutV
  rw [HT.sIx_none, HT.sIx_nat]
  by_cases h : k ≤ xs.length
  · rw [Nat.min_eq_left h, List.take_of_length_le (by simp)]
  · rw [Nat.min_eq_right (by omega), List.drop_of_length_le (Nat.le_refl _), List.drop_of_length_le (by omega)]
    simp
end Ld
namespace K4
open PySem L2 Ld
/-! ### data of some depth -/
inductive Lv : Nat → PyData → Prop
  | one {n : Nat} {d : PyData} : atomB d = true → Lv n d
  | tup {n : Nat} {ds : List PyData} : ds.length ≤ 8 → (∀ e ∈ ds, Lv n e) → Lv (n + 1) (.tuple ds)
  | lst {n : Nat} {ds : List PyData} : ds.length ≤ 8 → (∀ e ∈ ds, Lv n e) → Lv (n + 1) (.list ds)
inductive In : Nat → PyData → Prop
  | one {n : Nat} {d : PyData} : atomB d = true → isTupD d = false → In n d
  | tup {n : Nat} {ds : List PyData} : ds.length ≤ 5 → (∀ e ∈ ds, In n e) → In (n + 1) (.tuple ds)
theorem In.lv {n : Nat} {d : PyData} (h : In n d) : Lv n d := by
  induction h with
  | one h _ => exact .one h
  | tup h _ ih => exact .tup (by omega) ih
/-- .. is small enough -/
structure Tame (n : Nat) (d : PyData) : Prop where
  fit : fitB d = true
  sh : d.showable = true
  dp : d.depth ≤ 4 + n
  ln : d.shown.length ≤ 100 * 12 ^ n
theorem shows_t : ∀ {ds : List PyData}, (∀ d ∈ ds, d.showable = true) → PyData.showableAll ds = true
  | [], _ => rfl
  | d :: ds, h => by simp only [PyData.showableAll, h d List.mem_cons_self, shows_t fun x hx => h x (List.mem_cons_of_mem _ hx), Bool.and_self]
theorem fits_t : ∀ {ds : List PyData}, (∀ d ∈ ds, fitB d = true) → fitAll ds = true
  | [], _ => rfl
  | d :: ds, h => by simp only [fitAll, h d List.mem_cons_self, fits_t fun x hx => h x (List.mem_cons_of_mem _ hx), Bool.and_self]
theorem depth_t {m : Nat} : ∀ {ds : List PyData}, (∀ d ∈ ds, d.depth ≤ m) → PyData.depthAll ds ≤ m
  | [], _ => Nat.zero_le _
  | d :: ds, h => by
    have h1 := h d List.mem_cons_self
    have h2 := depth_t fun x hx => h x (List.mem_cons_of_mem _ hx)
    simp only [PyData.depthAll]
    omega
theorem len_t {m : Nat} : ∀ {ds : List PyData}, (∀ d ∈ ds, d.shown.length ≤ m) → ((PyData.shownAll ds).map (·.length)).sum ≤ m * ds.length ∧ (PyData.shownAll ds).length = ds.length
  | [], _ => ⟨Nat.le_refl _, rfl⟩
  | d :: ds, h => by
    have h1 := h d List.mem_cons_self
    obtain ⟨h2, h3⟩ := len_t fun x hx => h x (List.mem_cons_of_mem _ hx)
    simp only [PyData.shownAll, List.map_cons, List.sum_cons, List.length_cons, Nat.mul_succ]
    omega
theorem atom_tame {n : Nat} {d : PyData} (h : atomB d = true) : Tame n d := by
  unfold atomB at h
  simp only [Bool.and_eq_true, decide_eq_true_eq] at h
  obtain ⟨⟨⟨h1, h2⟩, h3⟩, h4⟩ := h
  have : 1 ≤ 12 ^ n := Nat.pos_of_ne_zero (by simp)
  exact ⟨h1, h2, by omega, by omega⟩
theorem Lv.tame {n : Nat} {d : PyData} (h : Lv n d) : Tame n d := by
  induction h with
  | one h => exact atom_tame h
  | @tup n ds h _ ih =>
    obtain ⟨h2, h3⟩ := len_t fun d hd => (ih d hd).ln
    have p : 1 ≤ 12 ^ n := Nat.pos_of_ne_zero (by simp)
    have e : 12 ^ (n + 1) = 12 * 12 ^ n := by rw [Nat.pow_succ, Nat.mul_comm]
    have m : 100 * 12 ^ n * ds.length ≤ 100 * 12 ^ n * 8 := Nat.mul_le_mul_left _ h
    refine ⟨Bool.and_eq_true_iff.mpr ⟨decide_eq_true (by omega), fits_t fun d hd => (ih d hd).fit⟩, by simpa only [PyData.showable] using shows_t fun d hd => (ih d hd).sh, ?_, ?_⟩
    · have := depth_t fun d hd => (ih d hd).dp
      simp only [PyData.depth]
      omega
    · have := tupleText_len_le (PyData.shownAll ds)
      simp only [PyData.shown]
      omega
  | @lst n ds h _ ih =>
    obtain ⟨h2, h3⟩ := len_t fun d hd => (ih d hd).ln
    have p : 1 ≤ 12 ^ n := Nat.pos_of_ne_zero (by simp)
    have e : 12 ^ (n + 1) = 12 * 12 ^ n := by rw [Nat.pow_succ, Nat.mul_comm]
    have m : 100 * 12 ^ n * ds.length ≤ 100 * 12 ^ n * 8 := Nat.mul_le_mul_left _ h
    refine ⟨fits_t fun d hd => (ih d hd).fit, by simpa only [PyData.showable] using shows_t fun d hd => (ih d hd).sh, ?_, ?_⟩
    · have := depth_t fun d hd => (ih d hd).dp
      simp only [PyData.depth]
      omega
    · have := listText_len_le (PyData.shownAll ds)
      simp only [PyData.shown]
      omega
theorem Tame.small {d : PyData} (h : Tame 3 d) : Small d := ⟨h.sh, Nat.le_trans h.dp (by decide), Nat.le_trans h.ln (by decide)⟩
end K4
namespace Ld
open PySem L2 PyProof.Rows
section
variable {K : PySem.W.Frag}
theorem DdAll.same {H H' : Hp} (s : Same H H') {xs : List V} {ds : List PyData} (h : DdAll K H xs ds) : DdAll K H' xs ds := ddAll_mono (fun _ _ q => s.seq q) (fun _ _ q => same_T s q) (fun _ _ q _ => s _ _ q) h
theorem DdAll.sb {H H' : Hp} {wa : Addr} (W : Well H wa) (s : Sb wa H H') {xs : List V} {ds : List PyData} (h : DdAll K H xs ds) : DdAll K H' xs ds := ddAll_mono (fun _ _ q => seqL W s q) (fun _ _ q => seqT W s q) (fun _ _ q n => s _ _ (W.neD q n) q) h
end
end Ld
namespace K4
open PySem L2 Ld
abbrev sBent : Stmt := top 35
theorem In.tup_inv {n : Nat} {ds : List PyData} (h : In n (.tuple ds)) : ∃ m, n = m + 1 ∧ ds.length ≤ 5 ∧ ∀ e ∈ ds, In m e := by
  cases h with
  | one _ h => cases h
  | tup h1 h2 => exact ⟨_, rfl, h1, h2⟩
theorem AnyD.same {K : PySem.W.Frag} {H H' : Hp} {v : V} (s : Same H H') (h : AnyD K H v) : AnyD K H' v := by
  obtain ⟨d, h1, h2⟩ := h
  exact ⟨d, h1.same s, h2⟩
section
variable {P : Program} {w : World} {K : PySem.W.Frag} {mg : Str → Option Value} {base : Heap} {f : Addr} {fd : FuncData}
def spBent (K : PySem.W.Frag) (n : Nat) : Sp := fun vs H Q _ => ∃ (wa : Addr) (v : V) (ds : List PyData), vs = [.ref wa, v] ∧ Well H wa ∧ Dd K H v (.tuple ds) ∧ In n (.tuple ds) ∧ ∀ v2 d H', Dd K H' v2 d → Lv n d → Well H' wa → Sb wa H H' → Q v2 H'
theorem scBent : FnScope ["_law_well_here", "_law_thing", "_law_at", "_law_way"] ["_law_well_here", "_law_thing"] (defScope sBent) := ⟨rfl, rfl, rfl, by decide +kernel, rfl, by decide +kernel, by decide +kernel⟩
/-- at < len(thing) and isinstance(thing[at], tuple) and .. -/
def tMid (K : PySem.W.Frag) : TT := fun σ G R => ∃ (a : Addr) (xs : List V) (ds : List PyData) (i : Nat) (j : Int), σ[1]? = some (some (.ref a)) ∧ σ[2]? = some (some (.int (i : Int))) ∧ σ[3]? = some (some (.int j)) ∧ SqT K G a xs ∧ DdAll K G xs ds ∧
  ∀ c : Bool, (c = true → ∃ x es, xs[i]? = some x ∧ ds[i]? = some (.tuple es) ∧ Dd K G x (.tuple es)) → R c G
theorem ok_bent {k n : Nat} (Fd : Fun K "_law_bent" "_law_bent" sBent f fd) (T : Tx mg) (D : Df P w K mg base 1 "_law_draw" ["_law_well_here", "_law_many"] spDraw) (A : Df P w K mg base 3 "_law_any" ["_law_well_here"] (spAny K))
    (B : Df P w K mg base k "_law_bent" ["_law_well_here", "_law_thing"] (spBent K n)) (hk : 3 ≤ k) : FnOk P w K mg base CX0 (k + 1) f fd ["_law_well_here", "_law_thing"] (spBent K (n + 1)) := by
  refine Fd.ok scBent (fun vs H Q E h => ?_) (fun cdv A0 outer s H vs Q E hr h => ?_)
  · obtain ⟨wa, v, ds, rfl, _⟩ := h
    rfl
  · obtain ⟨wa, v, ds, rfl, hw, hT, hin, q⟩ := h
    have nd := scBent.nd
    refine ⟨_, pss_cons (ps_par (i := 2) (j := 3) (by rfl) scBent.nd rfl rfl (by decide) rfl rfl (pa_cons (pe_df D hr (pa_cons (pv 0) (pa_cons (pe_op op_add (pe_callB call_len_seq (by rfl) T.len PySem.boot_len (pa_cons (pv 1) pa_nil)) pe_int) pa_nil)) (by omega))
        (pa_cons (pe_df D hr (pa_cons (pv 0) (pa_cons pe_int pa_nil)) (by omega)) pa_nil)) (by rfl))
      (pss_cons (ps_if (pt_cmpR op_eq (pv 3) pe_int (nomark _)) (pss_one (ps_ret (pe_callTy call_lstN (by rfl) T.list (by decide +kernel) (pa_cons (pv 1) pa_nil)))) pss_nil)
      (pss_cons (ps_if (pt_cmpR op_eq (pv 3) pe_int (nomark _)) (pss_one (ps_ret (pe_op op_catW (pe_slice sl_tupW (pv 1) po_none (po_some (pv 2))) (pe_slice sl_tupW (pv 1) (po_some (pe_op op_add (pv 2) pe_int)) po_none)))) pss_nil)
      (pss_cons (ps_if (pt_cmpR op_eq (pv 3) pe_int (nomark _)) (pss_one (ps_ret (pe_op op_catW (pe_op op_catW (pe_slice sl_tupW (pv 1) po_none (po_some (pv 2))) (pe_tup (pa_cons (pe_df A hr (pa_cons (pv 0) pa_nil) (by omega)) pa_nil))) (pe_slice sl_tupW (pv 1) (po_some (pv 2)) po_none)))) pss_nil)
      (pss_cons (ps_if (PT.conv (t := tMid K) (PW.pt (pw_and (pt_cmpR op_lt (pv 2) (pe_callB call_len_seq (by rfl) T.len PySem.boot_len (pa_cons (pv 1) pa_nil)) (nomark _))
          (pw_and (pt_val (pe_callB (call_isa "tuple") (by rfl) T.isi bootN (pa_cons (pe_ix ix_tup (pv 1) (pv 2) (fun _ _ => rfl)) (pa_cons (pe_bltn (v := .ty "tuple") (by rfl) T.tuple (by decide +kernel) rfl) pa_nil))))
          (pw_and1 (pt_cmpR op_gt (pv 3) pe_int (nomark _)))))) (fun σ G R h => ?mid))
        (pss_one (ps_ret (pe_op op_catW (pe_op op_catW (pe_slice sl_tupW (pv 1) po_none (po_some (pv 2))) (pe_tup (pa_cons (pe_df B hr (pa_cons (pv 0) (pa_cons (pe_ix ix_tup (pv 1) (pv 2) (fun _ _ => rfl)) pa_nil)) (Nat.le_refl _)) pa_nil)))
          (pe_slice sl_tupW (pv 1) (po_some (pe_op op_add (pv 2) pe_int)) po_none)))) pss_nil)
      (pss_one (ps_ret (pe_op op_catW (pe_op op_catW (pe_slice sl_tupW (pv 1) po_none (po_some (pv 2))) (pe_tup (pa_cons (pe_df A hr (pa_cons (pv 0) pa_nil) (by omega)) pa_nil))) (pe_slice sl_tupW (pv 1) (po_some (pe_op op_add (pv 2) pe_int)) po_none)))))))), ?_⟩
    case mid =>
      obtain ⟨a, xs, ds, i, j, e1, e2, e3, hs, hd, R'⟩ := h
      refine ⟨_, e2, _, e1, a, xs, rfl, .inr hs, _, _, rfl, rfl, _, rfl, ?_⟩
      by_cases hi : i < xs.length
      · rw [decide_eq_true (by omega)]
        obtain ⟨x, hx⟩ : ∃ x, xs[i]? = some x := ⟨xs[i], List.getElem?_eq_getElem hi⟩
        obtain ⟨d, h1, h2⟩ := hd.get i x hx
        refine iteT ⟨_, e1, _, e2, a, _, _, x, rfl, rfl, hs, at_of (j := i) rfl hx, _, rfl, _, _, h2.ty, kit_tuple d, _, rfl, ?_⟩
        cases d with
        | tuple es => exact iteT ⟨_, e3, _, _, rfl, rfl, _, rfl, R' _ fun _ => ⟨x, es, hx, h1, h2⟩⟩
        | _ => exact iteF (R' _ fun e => by cases e)
      · rw [decide_eq_false (by omega)]
        exact iteF (R' _ fun e => by cases e)
    obtain ⟨m, em, hlen, hall⟩ := hin.tup_inv
    obtain rfl : n = m := by omega
    cases hT with
    | @tup a xs _ hs hd =>
      have hl := hd.len
      refine ⟨_, rfl, _, rfl, a, _, rfl, .inr hs, _, _, rfl, rfl, wa, _, rfl, hw, by omega, by omega, fun k1 H1 a1 b1 W1 s1 => ?_⟩
      refine ⟨_, rfl, wa, 7, rfl, W1, by decide, by decide, fun k2 H2 a2 b2 W2 s2 => ⟨_, _, rfl, ?_⟩⟩
      obtain ⟨i, rfl⟩ := Int.eq_ofNat_of_zero_le a1
      obtain ⟨j, rfl⟩ := Int.eq_ofNat_of_zero_le a2
      have s12 := s1.trans s2
      have hS2 := seqT hw s12 hs
      have hD2 := DdAll.sb hw s12 hd
      have hc : (i : Int) + 1 = ((i + 1 : Nat) : Int) := by omega
      refine ⟨_, rfl, rfl, _, rfl, ?_⟩
      refine ite2 (fun _ => ?_) (fun _ => ?_)
      · refine ⟨_, rfl, a, _, rfl, hS2, fun l hl3 hn => ?_⟩
        have z := Same.new (o := .lst xs) hl3
        exact q _ _ _ (.lst (.of upd_same) hn (hD2.same z)) (.lst (by omega) fun e he => (hall e he).lv) (W2.same z) (s12.trans (.of z))
      · refine ⟨_, rfl, rfl, _, rfl, ?_⟩
        refine ite2 (fun _ => ?_) (fun _ => ?_)
        · refine ⟨_, rfl, _, rfl, _, rfl, a, _, rfl, hS2, fun r1 G1 z1 q1 => ?_⟩
          rw [cutV_lo] at q1
          refine ⟨_, rfl, _, rfl, _, _, rfl, rfl, _, rfl, a, _, rfl, same_T z1 hS2, fun r2 G2 z2 q2 => ?_⟩
          rw [hc, cutV_hi] at q2
          refine ⟨r1, r2, _, _, rfl, rfl, same_T z2 q1, q2, ?_, fun r3 G3 z3 q3 => ?_⟩
          · rw [sizeLine_eq]
            simp only [List.length_take, List.length_drop]
            omega
          · have z := z1.trans (z2.trans z3)
            have dd := hD2.same z
            refine q _ _ _ (.tup q3 ((dd.take i).append (dd.drop (i + 1)))) (.tup ?_ fun e he => ?_) (W2.same z) (s12.trans (.of z))
            · simp only [List.length_append, List.length_take, List.length_drop]
              omega
            · rcases List.mem_append.mp he with g | g
              · exact (hall e (List.mem_of_mem_take g)).lv
              · exact (hall e (List.mem_of_mem_drop g)).lv
        · refine ⟨_, rfl, rfl, _, rfl, ?_⟩
          refine ite2 (fun _ => ?_) (fun _ => ?_)
          · refine ⟨_, rfl, _, rfl, _, rfl, a, _, rfl, hS2, fun r1 G1 z1 q1 => ?_⟩
            rw [cutV_lo] at q1
            refine ⟨_, rfl, wa, rfl, W2.same z1, fun v G2 hv W3 s3 => ⟨(show 1 ≤ sizeLine by decide), fun p hp => ?_⟩⟩
            obtain ⟨d, dv, ha, _⟩ := hv
            have lv : Lv n d := .one ha
            have zp := Same.new (o := .tup [v]) hp
            have q1b := same_T zp (seqT (W2.same z1) s3 q1)
            have hS3 := same_T zp (seqT (W2.same z1) s3 (same_T z1 hS2))
            have hD3 := (DdAll.sb (W2.same z1) s3 (hD2.same z1)).same zp
            refine ⟨r1, p, _, [v], rfl, rfl, q1b, .of upd_same, ?_, fun r2 G3 z3 q3 => ?_⟩
            · rw [sizeLine_eq]
              simp only [List.length_take, List.length_cons, List.length_nil]
              omega
            · refine ⟨_, rfl, _, rfl, _, rfl, a, _, rfl, same_T z3 hS3, fun r3 G4 z4 q4 => ?_⟩
              rw [cutV_hi] at q4
              refine ⟨r2, r3, _, _, rfl, rfl, same_T z4 q3, q4, ?_, fun r4 G5 z5 q5 => ?_⟩
              · rw [sizeLine_eq]
                simp only [List.length_append, List.length_take, List.length_drop, List.length_cons, List.length_nil]
                omega
              · have z := z3.trans (z4.trans z5)
                have dd := hD3.same z
                refine q _ _ _ (.tup q5 (((dd.take i).append (.cons ((dv.same zp).same z) .nil)).append (dd.drop i))) (.tup ?_ fun e he => ?_) (W3.same (zp.trans z)) (s12.trans ((Sb.of z1).trans (s3.trans (.of (zp.trans z)))))
                · simp only [List.length_append, List.length_take, List.length_drop, List.length_cons, List.length_nil]
                  omega
                · rcases List.mem_append.mp he with g | g
                  · rcases List.mem_append.mp g with g | g
                    · exact (hall e (List.mem_of_mem_take g)).lv
                    · rw [List.mem_singleton.mp g]
                      exact lv
                  · exact (hall e (List.mem_of_mem_drop g)).lv
          · refine ⟨a, xs, ds, i, (j : Int), rfl, rfl, rfl, hS2, hD2, fun c hcc => ?_⟩
            cases c with
            | true =>
              obtain ⟨x, es, hx, hx2, dx⟩ := hcc rfl
              have hin2 := hall _ (List.mem_of_getElem? hx2)
              refine iteT ?_
              refine ⟨_, rfl, _, rfl, _, rfl, a, _, rfl, hS2, fun r1 G1 z1 q1 => ?_⟩
              rw [cutV_lo] at q1
              refine ⟨_, rfl, _, rfl, _, rfl, a, _, _, x, rfl, rfl, same_T z1 hS2, at_of (j := i) rfl hx, wa, x, es, rfl, W2.same z1, dx.same z1, hin2, fun v d G2 dv lv W3 s3 => ⟨(show 1 ≤ sizeLine by decide), fun p hp => ?_⟩⟩
              have zp := Same.new (o := .tup [v]) hp
              have q1b := same_T zp (seqT (W2.same z1) s3 q1)
              have hS3 := same_T zp (seqT (W2.same z1) s3 (same_T z1 hS2))
              have hD3 := (DdAll.sb (W2.same z1) s3 (hD2.same z1)).same zp
              refine ⟨r1, p, _, [v], rfl, rfl, q1b, .of upd_same, ?_, fun r2 G3 z3 q3 => ?_⟩
              · rw [sizeLine_eq]
                simp only [List.length_take, List.length_cons, List.length_nil]
                omega
              · refine ⟨_, rfl, _, rfl, _, _, rfl, rfl, _, rfl, a, _, rfl, same_T z3 hS3, fun r3 G4 z4 q4 => ?_⟩
                rw [hc, cutV_hi] at q4
                refine ⟨r2, r3, _, _, rfl, rfl, same_T z4 q3, q4, ?_, fun r4 G5 z5 q5 => ?_⟩
                · rw [sizeLine_eq]
                  simp only [List.length_append, List.length_take, List.length_drop, List.length_cons, List.length_nil]
                  omega
                · have z := z3.trans (z4.trans z5)
                  have dd := hD3.same z
                  refine q _ _ _ (.tup q5 (((dd.take i).append (.cons ((dv.same zp).same z) .nil)).append (dd.drop (i + 1)))) (.tup ?_ fun e he => ?_) (W3.same (zp.trans z)) (s12.trans ((Sb.of z1).trans (s3.trans (.of (zp.trans z)))))
                  · simp only [List.length_append, List.length_take, List.length_drop, List.length_cons, List.length_nil]
                    omega
                  · rcases List.mem_append.mp he with g | g
                    · rcases List.mem_append.mp g with g | g
                      · exact (hall e (List.mem_of_mem_take g)).lv
                      · rw [List.mem_singleton.mp g]
                        exact lv
                    · exact (hall e (List.mem_of_mem_drop g)).lv
            | false =>
              refine iteF ?_
              refine ⟨_, rfl, _, rfl, _, rfl, a, _, rfl, hS2, fun r1 G1 z1 q1 => ?_⟩
              rw [cutV_lo] at q1
              refine ⟨_, rfl, wa, rfl, W2.same z1, fun v G2 hv W3 s3 => ⟨(show 1 ≤ sizeLine by decide), fun p hp => ?_⟩⟩
              obtain ⟨d, dv, ha, _⟩ := hv
              have lv : Lv n d := .one ha
              have zp := Same.new (o := .tup [v]) hp
              have q1b := same_T zp (seqT (W2.same z1) s3 q1)
              have hS3 := same_T zp (seqT (W2.same z1) s3 (same_T z1 hS2))
              have hD3 := (DdAll.sb (W2.same z1) s3 (hD2.same z1)).same zp
              refine ⟨r1, p, _, [v], rfl, rfl, q1b, .of upd_same, ?_, fun r2 G3 z3 q3 => ?_⟩
              · rw [sizeLine_eq]
                simp only [List.length_take, List.length_cons, List.length_nil]
                omega
              · refine ⟨_, rfl, _, rfl, _, _, rfl, rfl, _, rfl, a, _, rfl, same_T z3 hS3, fun r3 G4 z4 q4 => ?_⟩
                rw [hc, cutV_hi] at q4
                refine ⟨r2, r3, _, _, rfl, rfl, same_T z4 q3, q4, ?_, fun r4 G5 z5 q5 => ?_⟩
                · rw [sizeLine_eq]
                  simp only [List.length_append, List.length_take, List.length_drop, List.length_cons, List.length_nil]
                  omega
                · have z := z3.trans (z4.trans z5)
                  have dd := hD3.same z
                  refine q _ _ _ (.tup q5 (((dd.take i).append (.cons ((dv.same zp).same z) .nil)).append (dd.drop (i + 1)))) (.tup ?_ fun e he => ?_) (W3.same (zp.trans z)) (s12.trans ((Sb.of z1).trans (s3.trans (.of (zp.trans z)))))
                  · simp only [List.length_append, List.length_take, List.length_drop, List.length_cons, List.length_nil]
                    omega
                  · rcases List.mem_append.mp he with g | g
                    · rcases List.mem_append.mp g with g | g
                      · exact (hall e (List.mem_of_mem_take g)).lv
                      · rw [List.mem_singleton.mp g]
                        exact lv
                    · exact (hall e (List.mem_of_mem_drop g)).lv
end
end K4
/-! A class called in a try: what its __init__ raises may hang on the slots; pieces that are never come to; a list's slice apart from the table of modules; isinstance of what is caught. -/
namespace Ld
open PySem PySem.Spec PyProof.Rows L2
section
variable {X : Cx} {CX : CXT} {k : Nat} {f C : Addr} {fd : FuncData} {ps : List Str} {sp : Sp} {E : L2.St → XK} {x : Str} {p pos : Pos} {e : Expr} {es : List Expr} {ta : TA}
def tMakeS (C : Addr) (sp : Sp) (E : L2.St → XK) (ta : TA) : TE := fun σ H Q => ta σ H fun vs H1 => ∀ a da, H1 a = none → H1 da = none → da ≠ a → sp (.ref a :: vs) (upd (upd H1 da (.own a)) a (.ins C da [])) (fun v H2 => v = .non ∧ Q (.ref a) H2) (E σ)
theorem pe_makeS (M : Mk X.K C f) (F : FnOk X.prog X.w X.K X.mg X.base CX k f fd ps sp) (hr : Room (k + 1) X.A) (hg : Gl X x) (hm : X.mg x = some (.ref C)) (hb : Binds X.K fd ps []) (hx : ∀ σ, PassesAt CX X σ (E σ))
    (ha : PA X (e :: es) ta) (hdb : (x == ("__debug__" : Str)) = false := by decide) (he : starEach (e :: es) X.env = (false, eval e X.env) :: starEach es X.env := by rfl) (hpl : (backTo pos (starEach es X.env)).any (·.1) = false := by rfl) :
    PE X (.Call (.Name x p) (e :: es) [] pos) (tMakeS C sp E ta) := by
  refine ⟨fun pins0 s0 σ0 H0 Q0 I0 h0 => wpAny_Call_Name_kw (ld_glob I0 hg hm ?_ hdb)⟩
  refine PySem.W.callWith_K (h₀ := X.base) I0.ok.mod.kin M.kp (thn (ha.run pos pins0 s0 σ0 H0 _ I0 h0) fun us0 s3 ⟨vs0, H3, I3, r3, q3⟩ => ⟨I3.kIn, ?_⟩) he hpl
  have big : H3 (s3.heap.objs.size + 1) = none := I3.hok.fresh (Nat.le_succ _)
  have small : H3 s3.heap.objs.size = none := I3.hok.fresh (Nat.le_refl _)
  have q4 := q3 _ _ big small (Nat.ne_of_lt (Nat.lt_succ_self _))
  have I4 := Inv.made (C := C) I3
  have r4 : Vals (V.ref (s3.heap.objs.size + 1) :: vs0) (Value.ref (s3.heap.objs.size + 1) :: us0) := .cons rfl r3
  have l4 : (Value.ref (s3.heap.objs.size + 1) :: us0).length = ps.length := r4.length.symm.trans (F.len _ _ _ _ q4)
  have b4 := hb _ (Value.ref (s3.heap.objs.size + 1) :: us0) I4.kIn (by rw [List.append_nil]; exact l4)
  rw [List.append_nil] at b4
  refine wpAny_call (make_map (f := f) I3.kIn M.makes M.init (beq_iff_eq.mp M.fn) (codeAny_mono (F.run _ X.stack _ _ ⟨Value.ref (s3.heap.objs.size + 1) :: us0, []⟩ _ _ _ (E σ0) (hr.make C us0 []) (I4.env0.make C us0 []) b4 r4 q4) fun z s5 hz => ?_))
  match z, hz with
  | .error er, hz => exact hx σ0 pins0 _ _ er s5 I4 hz
  | .ok (.ret u), hz =>
    obtain ⟨v, H5, I5, rv, ev, q5⟩ := I4.after hz
    subst ev
    exact ⟨rv, ⟨V.ref (s3.heap.objs.size + 1), H5, I5, rfl, q5⟩⟩
  | .ok .next, hz => exact False.elim hz
  | .ok .brk, hz => exact False.elim hz
  | .ok .cont, hz => exact False.elim hz
/-- statements that nothing comes to -/
theorem pss_dead {sts : List Stmt} : PSs X sts (fun _ _ _ => False) := ⟨fun _ _ _ _ _ _ h => h.elim⟩
/-- xs[lo:hi] of a list: where the new list does not lie -/
def rSlN (K : PySem.W.Frag) : V → Option Int → Option Int → Hp → VK → Prop := fun x lo hi H Q => ∃ l ys, x = .ref l ∧ SqL K H l ys ∧ ∀ q, H q = none → q ≠ sysModules → Q (.ref q) (upd H q (.lst (cutV ys lo hi)))
theorem sl_lstN : SlR X (rSlN X.K) := by
  intro pins0 s0 σ0 H0 x0 v0 vl0 vu0 lo0 hi0 sl0 Q0 I0 rx0 hs0 pl0 pu0 ⟨l, ys, e0, hl, q0⟩
  subst e0
  cases rx0
  obtain ⟨js, rj, tj, zj⟩ := I0.list hl
  have lj := rj.length
  refine ⟨"list", _, slot_list_getitem.lookup, tj.isList.typeIs, wpAny_getItem_list_slice tj.isList hs0 pl0 pu0 .none (by simp) ?_ (by rw [List.size_toArray]; omega)⟩
  rw [slicePick_cut, ← lj]
  refine ⟨.ref s0.heap.objs.size, _, I0.laid (t' := s0.toks) (o := .lst (cutV ys lo0 hi0)) (fun b ob q => Heap.get?_push_of_some _ q) (Nat.le_refl _) ?_, rfl, q0 _ I0.fresh (Nat.ne_of_gt I0.big)⟩
  exact ⟨Nat.le_trans (cutV_length ys lo0 hi0) zj, _, 0, (rj.drop (HT.sIx ys.length 0 lo0)).take (HT.sIx ys.length ys.length hi0 - HT.sIx ys.length 0 lo0), Heap.get?_push_size _ rfl⟩
end
/-- isinstance(e, c) of what the suite has caught, with fields -/
def rIsC (K : PySem.W.Frag) (D a : Addr) (cls : Value) (d : Option Addr) : List V → Hp → VK → Prop := fun xs H Q => cls = .ref D ∧ ∃ (dd : Addr) (fs : List (Str × V)) (c : V) (cv : Value) (b : Bool), xs = [.ref a, c] ∧ d = some dd ∧ H dd = some (.xd fs) ∧ (∀ u, RelV c u → u = cv) ∧ PySem.W.kitOne K (.ref D) cv = some b ∧ Q (.bl b) H
theorem call_isC {X : Cx} {D a : Addr} {d : Option Addr} {oe : Obj} {cls : Value} {pn : List (Addr × Obj)} (C : ExcC X.K D) (hz : Zc cls d oe) (hf : ∃ vs, oe.data = .fields vs) : CallR (X.suite a ((a, oe) :: pn)) (.builtin "isinstance") (rIsC X.K D a cls d) := by
  intro pins0 s0 σ0 H0 xs0 us0 Q0 I0 r0 ⟨hc, dd, fs, c, cv, b, e1, e2, e3, e4, e5, q0⟩
  subst hc
  subst e1
  subst e2
  cases r0 with
  | cons rx rr =>
    cases rr with
    | cons rt rr =>
      cases rr
      cases rx
      have e6 := e4 _ rt
      subst e6
      obtain ⟨ha, _⟩ := I0.pin (a, oe) (List.mem_append_left _ List.mem_cons_self)
      obtain ⟨vs, hd⟩ := hf
      have hx : ObjOk X.prog X.w H0 s0.heap dd (.xd fs) := I0.hok dd _ e3
      obtain ⟨mA, hns, _⟩ := hx
      obtain ⟨od, ho, _⟩ := lookIn_ns hns
      have J : PySem.W.InstAt s0.heap a oe D (some od) := ⟨ha, hz.1, by unfold PySem.W.notCls; rw [hd], by rw [hz.2]; exact ho⟩
      exact PySem.W.kia_one (EX.kitx_exo C.hg C.hk C.hs C.hd C.ha C.hn C.ht C.hm) I0.kIn ⟨oe, some od, J⟩ e5 (fun z => nomatch z) fun tk => ⟨.bl b, H0, I0.kept (t' := tk) fun _ _ z => z, rfl, q0⟩
end Ld
namespace K4
open PySem L2 Ld
def inner (i : Nat) : Stmt := match top i with
  | .ClassDef _ _ _ body _ _ _ _ _ _ _ => body.getD 0 (.Pass ⟨0, 0, 0, 0⟩)
  | s => s
abbrev sBadInit : Stmt := inner 3
abbrev sTabInit : Stmt := inner 21
section
variable {P : Program} {w : World} {K : PySem.W.Frag} {mg : Str → Option Value} {base : Heap} {f : Addr} {fd : FuncData}
/-- self.value = value -/
def spInit (K : PySem.W.Frag) : Sp := fun vs H Q _ => ∃ (a C : Addr) (v : V), vs = [.ref a, v] ∧ H a = some (exo a C none) ∧ OexC K C ∧ PySem.W.findIn K (.ref C) "value" = some none ∧
  ∀ d, H d = none → d ≠ a → Q .non (upd (upd H d (exd d [("value", v)])) a (exo a C (some d)))
theorem scI : FnScope ["self", "value"] ["self", "value"] (defScope sBadInit) := ⟨rfl, rfl, rfl, by decide +kernel, rfl, by decide +kernel, by decide +kernel⟩
theorem ok_badInit (Fd : Fun K "__init__" "BadRule.__init__" sBadInit f fd) : FnOk P w K mg base CX0 1 f fd ["self", "value"] (spInit K) := by
  refine Fd.ok scI (fun vs H Q E h => ?_) (fun cdv A outer s H vs Q E hr h => ?_)
  · obtain ⟨a, C, v, rfl, _⟩ := h
    rfl
  · obtain ⟨a, C, v, rfl, hA, hT, hno, q⟩ := h
    refine ⟨_, pss_one (ps_ost (pv 0) (pv 1)), ?_⟩
    exact ⟨_, rfl, _, rfl, a, C, rfl, hT, hno, .inl ⟨hA, fun d h1 h2 => q d h1 h2⟩⟩
/-- what the written part says of the two error classes -/
structure Err (P : Program) (w : World) (K : PySem.W.Frag) (mg : Str → Option Value) (base : Heap) (CB CL fI : Addr) (fdI : FuncData) : Prop where
  gB : mg "BadRule" = some (.ref CB)
  gL : mg "LeadError" = some (.ref CL)
  oex : OexC K CB
  iC : PySem.W.findIn K (.ref CB) "__init__" = some (some (.ref fI))
  tI : PySem.W.typeIn K (.ref fI) = some (.type "function")
  F1 : FnOk P w K mg base CX0 1 fI fdI ["self", "value"] (spInit K)
  hb : Binds K fdI ["self", "value"] []
  no : PySem.W.findIn K (.ref CB) "value" = some none
  xf : XfC K CB
  ex : ExcC K CB
  exm : PySem.W.exmOne K (.ref CB) (.ref CL) = some true
  exb : PySem.W.exmOne K (.ref CB) (.ref CB) = some true
  kit : PySem.W.kitOne K (.ref CB) (.ref CB) = some true
def spTable (K : PySem.W.Frag) (CB : Addr) : Sp := fun vs H Q E => ∃ (a la : Addr) (xs : List V) (ds : List PyData) (i : Nat) (v : V), vs = [.ref a, .ref la] ∧ SqL K H la xs ∧ DdAll K H xs ds ∧ (∀ d ∈ ds, fitB d = true) ∧ xs[i]? = some v ∧
  (∃ d, ds[i]? = some d ∧ ruleD d = false) ∧ (∀ j < i, ∃ d, ds[j]? = some d ∧ ruleD d = true) ∧ ∀ d G, Same H G → H d = none → G d = some (.xd [("value", v)]) → E (.ref CB) (some d) G
theorem scTab : FnScope ["self", "rules", "rule", "found"] ["self", "rules"] (defScope sTabInit) := ⟨rfl, rfl, rfl, by decide +kernel, rfl, by decide +kernel, by decide +kernel⟩
theorem ok_tabInit {CB CL fI : Addr} {fdI : FuncData} {dvs : List V} (Fd : FunD K "__init__" "Table.__init__" (defArgs sTabInit) (defBody sTabInit) (defScope sTabInit) dvs [] f fd) (Z : Err P w K mg base CB CL fI fdI) (DR : Df P w K mg base 5 "is_rule" ["value"] (spRule K)) :
    FnOk P w K mg base (L2.CX P w) 6 f fd ["self", "rules"] (spTable K CB) := by
  refine Fd.ok scTab (fun vs H Q E h => ?_) (fun cdv A outer s H vs Q E hr h => ?_)
  · obtain ⟨a, la, xs, ds, i, v, rfl, _⟩ := h
    rfl
  · obtain ⟨a, la, xs, ds, i, v, rfl, hS, hD, hF, hv, ⟨db, hdb, hbad⟩, hgood, q⟩ := h
    refine ⟨_, pss_cons (ps_for (passes_of rfl) rfl (pi_list (pv 1)) (pg_name (i := 2) scTab.nd rfl (Or.inl rfl)) (pss_one (ps_if (pt_not (pt_val (pe_df DR hr (pa_cons (pv 2) pa_nil))))
      (pss_one (ps_raise rfl (takes_of rfl rfl rfl rfl) (pmk_oex Z.oex Z.iC Z.tI Z.F1 (hr.mono (by decide)) Z.hb .nil pass0 (by rfl) Z.gB (pa_cons (pv 2) pa_nil)))) pss_nil))) pss_dead, ?_⟩
    refine ⟨_, rfl, la, rfl, ⟨_, hS⟩, for_list (K := K) (a := la) (xs := xs) (fun j σ G => G = H ∧ j ≤ i ∧ ∃ u, σ = [some (.ref a), some (.ref la), u, none]) ⟨rfl, Nat.zero_le _, none, rfl⟩ (fun j σ G _ h => by rw [h.1]; exact hS) ?_ ?_⟩
    · rintro j x σ G hx ⟨rfl, hj, u, rfl⟩
      obtain ⟨d, h1, h2⟩ := hD.get j x hx
      refine ⟨_, rfl, x, d, rfl, h2, hF d (List.mem_of_getElem? h1), _, rfl, ?_⟩
      by_cases e : j = i
      · subst e
        rw [h1] at hdb
        cases hdb
        rw [hx] at hv
        cases hv
        rw [hbad]
        refine iteT ⟨_, rfl, (show 1 ≤ 1000 by decide), fun b hb2 => ?_⟩
        have hd0 : ∀ dd, (upd G b (exo b CB none)) dd = none → dd ≠ b → G dd = none := fun dd h n => by
          rw [upd_ne n] at h
          exact h
        refine ⟨b, CB, v, rfl, upd_same, Z.oex, Z.no, fun dd hdd hne => ⟨rfl, dd, [("value", v)], upd_same, ?_, hd0 dd hdd hne, q dd _ (fun c o e => ?_) (hd0 dd hdd hne) upd_same⟩⟩
        · rw [upd_ne hne, upd_same]
        · have n1 : c ≠ b := ne_of_none e hb2
          rw [upd_ne (ne_of_none e (hd0 dd hdd hne)), del_ne n1, upd_ne n1, upd_ne (ne_of_none e (hd0 dd hdd hne)), upd_ne n1]
          exact e
      · obtain ⟨d2, h3, h4⟩ := hgood j (by omega)
        rw [h1] at h3
        cases h3
        rw [h4]
        exact iteF ⟨rfl, by omega, _, rfl⟩
    · rintro σ G ⟨rfl, hj, u, rfl⟩
      exact absurd (List.getElem?_eq_some_iff.mp hv).1 (by omega)
end
end K4
namespace K4
open PySem L2 Ld
abbrev sTold : Stmt := top 36
structure Tab (P : Program) (w : World) (K : PySem.W.Frag) (mg : Str → Option Value) (base : Heap) (CB CT fT : Addr) (fdT : FuncData) : Prop where
  gT : mg "Table" = some (.ref CT)
  mkT : Mk K CT fT
  F : FnOk P w K mg base (L2.CX P w) 6 fT fdT ["self", "rules"] (spTable K CB)
  hb : Binds K fdT ["self", "rules"] []
section
variable {P : Program} {w : World} {K : PySem.W.Frag} {mg : Str → Option Value} {base : Heap} {f : Addr} {fd : FuncData} {CB CL CT fI fT : Addr} {fdI fdT : FuncData}
theorem call_reprK {X : Cx} {K : PySem.W.Frag} {P : Program} {w : World} (hG : X.A.guards = some []) (hu : X.A.units + 64 < cLine) (hK : X.K = K := by rfl) (hP : X.prog = P := by rfl) (hW : X.w = w := by rfl) :
    CallR X (.builtin "repr") (fun xs H Q => ∃ v d, xs = [v] ∧ Rds K P w H v d ∧ Small d ∧ Q (.str d.shown) H) := by
  subst hK hP hW
  exact call_repr hG hu
theorem Tame.small4 {d : PyData} (h : Tame 4 d) : Small d := ⟨h.sh, Nat.le_trans h.dp (by decide), Nat.le_trans h.ln (by decide)⟩
def spTold (K : PySem.W.Frag) : Sp := fun vs H Q _ => ∃ (la : Addr) (xs : List V) (ds : List PyData) (i : Nat) (v : V) (d : PyData), vs = [.ref la] ∧ SqL K H la xs ∧ DdAll K H xs ds ∧ ds.length ≤ 8 ∧ (∀ d ∈ ds, Lv 3 d) ∧ xs[i]? = some v ∧
  ds[i]? = some d ∧ ruleD d = false ∧ (∀ j < i, ∃ e, ds[j]? = some e ∧ ruleD e = true) ∧ ∀ H', Same H H' → Q (.bl true) H'
theorem scTold : FnScope ["_law_things", "_law_own", "_law_caught", "e", "_law_thing"] ["_law_things"] (defScope sTold) := ⟨rfl, rfl, rfl, by decide +kernel, rfl, by decide +kernel, by decide +kernel⟩
def tSuite (K : PySem.W.Frag) (CB : Addr) : Addr → Value → Option Addr → TS := fun a cls d => tDrop (tBM K "list" rAppend (tVar 2) (tCons (tIf (tB (tCB (rIsC K CB a cls d) (tCons (tVar 3) (tCons (tC (.ref CB)) tNil)))) (tXf a cls d CB "value" (tVar 3)) (tC (.str "another error"))) tNil))
theorem ok_told (Fd : Fun K "_law_told" "_law_told" sTold f fd) (T : Tx mg) (Z : Err P w K mg base CB CL fI fdI) (B : Tab P w K mg base CB CT fT fdT) (DU : Df P w K mg base 4 "_law_due" ["_law_thing"] (spDue K)) :
    FnG P w K mg base 8 f fd ["_law_things"] (spTold K) := by
  refine Fun.okG Fd scTold (fun vs H Q E h => ?_) (fun cdv A outer s H vs Q E hG hr h => ?_)
  · obtain ⟨la, xs, ds, i, v, d, rfl, _⟩ := h
    rfl
  · obtain ⟨la, xs, ds, i, v, d, rfl, hS, hD, hlen, hlv, hv, hd, hbad, hgood, q⟩ := h
    have nd := scTold.nd
    refine ⟨_, pss_cons (ps_par (i := 1) (j := 2) (by rfl) nd rfl rfl (by decide) rfl rfl (pa_cons (pe_lc (own := [("_law_thing", 4)]) (g := gName 4) (by rfl) nd (pi_list (pv 0)) (blkOk_by (own := [("_law_thing", 4)]) (N := ["_law_things", "_law_own", "_law_caught", "e", "_law_thing"]) (sc := defScope sTold) (by decide +kernel))
          (fun _ _ _ _ _ => pg_name (i := 4) nd rfl (Or.inl rfl)) (fun _ _ _ _ _ => pts_one (pt_not (pt_val (pe_df DU hr (pa_cons (pv 4) pa_nil))))) (fun _ _ _ _ _ => pv 4)) (pa_cons (pe_lstN pa_nil) pa_nil)) (by rfl))
      (pss_cons (ps_try_as (i := 3) (tb := fun W => tDrop (tMakeS CT (spTable K CB) (WE W) (tCons (tVar 0) tNil))) (ts := tSuite K CB) (Wout := fun _ _ _ _ => False) rfl rfl nd rfl rfl ⟨rfl, by decide, Or.inl Z.gL⟩ takes0
        (fun W pn xe tk po => pss_one (ps_expr (pe_makeS B.mkT B.F (hr.mono (by decide)) (by rfl) B.gT B.hb (fun σ => passAt tk σ) (pa_cons (pv 0) pa_nil))))
        (fun a oe cls d pn hz hf => pss_one (ps_expr (pe_bm PySem.F.plainAttrs_list PySem.F.slot_list_append PySem.F.type_list_append mt_append (pv 2) (pa_cons (pe_ifExp (pt_val (pe_callB (call_isC Z.ex hz hf) (by rfl) T.isi bootN (pa_cons (pv 3) (pa_cons (pe_glob (v := .ref CB) (by rfl) Z.gB rfl) pa_nil))))
          (pe_xf Z.xf Z.no hz hf (pv 3)) pe_str) pa_nil)))))
      (pss_one (ps_ret (pe_cmpR op_eq (pe_callB (call_reprK (K := K) (P := P) (w := w) hG hr.units) (by rfl) T.repr (by decide +kernel) (pa_cons (pv 2) pa_nil))
        (pe_callB (call_reprK (K := K) (P := P) (w := w) hG hr.units) (by rfl) T.repr (by decide +kernel) (pa_cons (pe_slice sl_lstN (pv 1) po_none (po_some pe_int)) pa_nil)) (nomark _))))), ?_⟩
    have hil : i < xs.length := (List.getElem?_eq_some_iff.mp hv).1
    have hxl : xs.length ≤ 8 := by rw [hD.len]; exact hlen
    have hfit : ∀ e ∈ ds, fitB e = true := fun e he => (hlv e he).tame.fit
    refine ⟨_, rfl, la, rfl, ⟨_, hS⟩, fun D hDn => ?_⟩
    refine lc_list (K := K) (a := la) (xs := xs) (fun j G => Same H G ∧ ∃ ys : List V, G D = some (.lst ys) ∧ ys.length ≤ j ∧ (j ≤ i → ys = []) ∧ (i < j → ∃ r, ys = v :: r)) ⟨Same.new hDn, [], upd_same, Nat.le_refl _, fun _ => rfl, fun h => absurd h (Nat.not_lt_zero _)⟩ (fun j G _ ⟨s2, _⟩ => s2.seq hS) ?_ ?_
    · rintro j x G hx ⟨s2, ys, hy, hn, h0, h1⟩
      obtain ⟨dj, e1, e2⟩ := hD.get j x hx
      have hjl : j < xs.length := (List.getElem?_eq_some_iff.mp hx).1
      refine ⟨rfl, _, rfl, x, dj, rfl, e2.same s2, hfit dj (List.mem_of_getElem? e1), fun G3 s3 => ⟨_, rfl, ?_⟩⟩
      cases er : ruleD dj with
      | true =>
        refine iteF ⟨s2.trans s3, ys, s3 _ _ hy, by omega, fun h => h0 (by omega), fun h => ?_⟩
        by_cases ej : j = i
        · subst ej
          rw [hd] at e1
          cases e1
          rw [hbad] at er
          cases er
        · exact h1 (by omega)
      | false =>
        have hji : i ≤ j := by
          refine Nat.le_of_not_lt fun h => ?_
          obtain ⟨e, q1, q2⟩ := hgood j h
          rw [e1] at q1
          cases q1
          rw [q2] at er
          cases er
        refine iteT ⟨x, rfl, ys, s3 _ _ hy, Nat.lt_of_le_of_lt (show ys.length ≤ 8 by omega) (by decide), fun b o eb => ?_, ys ++ [x], upd_same, by simp; omega, fun h => absurd h (by omega), fun h => ?_⟩
        · rw [upd_ne (ne_of_none eb hDn)]
          exact s3 _ _ (s2 b o eb)
        · by_cases ej : j = i
          · subst ej
            rw [hv] at hx
            cases hx
            rw [h0 (Nat.le_refl _)]
            exact ⟨[], rfl⟩
          · obtain ⟨r, e⟩ := h1 (by omega)
            rw [e]
            exact ⟨r ++ [x], rfl⟩
    · rintro G ⟨s2, ys, hy, hn, h0, h1⟩
      obtain ⟨r, rfl⟩ := h1 hil
      refine ⟨(show 0 ≤ sizeLine by decide), fun c hc hcn => ⟨_, _, rfl, ?_⟩⟩
      have y2 := Same.new (o := .lst []) hc
      have hcH : H c = none := by
        cases e : H c with
        | none => rfl
        | some o =>
          rw [s2 _ _ e] at hc
          cases hc
      have hc2 : (upd G c (.lst [])) c = some (.lst []) := upd_same
      have hD2 := y2 _ _ hy
      have s02 := s2.trans y2
      generalize upd G c (.lst []) = G2 at y2 hc2 hD2 s02 ⊢
      refine ⟨_, rfl, fun a da ha hda hne => ?_⟩
      have y3 : Same G2 (upd (upd G2 da (.own a)) a (.ins CT da [])) := fun b o e => by
        rw [upd_ne (ne_of_none e ha), upd_ne (ne_of_none e hda)]
        exact e
      generalize upd (upd G2 da (.own a)) a (.ins CT da []) = G3 at y3 ⊢
      have s03 := s02.trans y3
      refine ⟨a, la, xs, ds, i, v, rfl, s03.seq hS, hD.same s03, hfit, hv, ⟨d, hd, hbad⟩, hgood, fun dd G4 s4 hdd hG4 => ?_⟩
      refine ⟨true, Z.exm, fun _ a0 ha0 => ?_, fun q => Bool.noConfusion q⟩
      have hc4 := s4 _ _ (y3 _ _ hc2)
      have hD4 := s4 _ _ (y3 _ _ hD2)
      have s04 := s03.trans s4
      refine ⟨_, rfl, Or.inl ⟨rfl, _, Or.inl (Or.inl hc4)⟩, ?_⟩
      refine ⟨_, rfl, ⟨rfl, dd, _, _, _, true, rfl, rfl, hG4, (fun u r => r), Z.kit, _, rfl, iteT ⟨_, rfl, rfl, rfl, dd, _, v, rfl, hG4, by simp [List.lookup], ?_⟩⟩⟩
      refine ⟨c, [], v, rfl, rfl, hc4, (show 0 < sizeLine by decide), ?_⟩
      have hc5 : (upd G4 c (.lst ([] ++ [v]))) c = some (.lst [v]) := upd_same
      have nDc : D ≠ c := fun e => by
        rw [e, hc4] at hD4
        cases hD4
      have hD5 : (upd G4 c (.lst ([] ++ [v]))) D = some (.lst (v :: r)) := (upd_ne nDc).trans hD4
      have s05 : Same H (upd G4 c (.lst ([] ++ [v]))) := fun b o e => by
        rw [upd_ne (ne_of_none e hcH)]
        exact s04 b o e
      generalize upd G4 c (.lst ([] ++ [v])) = G5 at hc5 hD5 s05 ⊢
      obtain ⟨d2, e1, e2⟩ := hD.get i v hv
      rw [hd] at e1
      cases e1
      have hvd := e2.same s05
      have hsm : Small (.list [d]) := (Lv.lst (n := 3) (by simp) fun e he => by rw [List.mem_singleton.mp he]; exact hlv d (List.mem_of_getElem? hd)).tame.small4
      refine ⟨_, rfl, _, .list [d], rfl, Dd.rds (.lst (.of hc5) hcn (.cons hvd .nil)), hsm, ?_⟩
      refine ⟨_, rfl, _, rfl, D, _, rfl, .of hD5, fun l hl hln => ?_⟩
      have y6 := Same.new (o := .lst (cutV (v :: r) none (some 1))) hl
      have ecut : cutV (v :: r) none (some 1) = [v] := (cutV_lo (v :: r) 1).trans rfl
      rw [ecut] at y6 ⊢
      refine ⟨_, .list [d], rfl, Dd.rds (.lst (.of upd_same) hln (.cons (hvd.same y6) .nil)), hsm, rfl, ?_⟩
      rw [decide_eq_true rfl]
      exact q _ (s05.trans y6)
end
end K4
namespace K4
open PySem L2 Ld
abbrev sLaw : Stmt := top 37
def lawN : List Str := ["_law_script", "_law_start", "_law_well_here", "_law_turn", "_law_rule_here", "_law_bent_here", "_law_thing", "_law_seen", "_law_far", "_law_own", "_law_caught", "e"]
theorem scLaw : FnScope lawN ["_law_script"] (defScope sLaw) := ⟨rfl, rfl, rfl, by decide +kernel, rfl, by decide +kernel, by decide +kernel⟩
theorem menu_atoms : menu4.all (fun z => atomB (.str z)) = true := by decide +kernel
theorem In.word {n : Nat} {ws : List Str} {m : Nat} (h : Adr4 m ws) (hm : m ≤ 5) : In (n + 1) (wt ws) := .tup (by rw [List.length_map]; exact Nat.le_trans h.1 hm) fun e he => by
  obtain ⟨z, hz, rfl⟩ := List.mem_map.mp he
  exact .one (List.all_eq_true.mp menu_atoms z (h.2 z hz)) rfl
theorem Sort2.atoms {s o : Str} (h : Sort2 s o) : atomB (.str s) = true ∧ atomB (.str o) = true := by cases h <;> exact ⟨by decide +kernel, by decide +kernel⟩
theorem in_three {n : Nat} {x y z : PyData} (hx : In n x) (hy : In n y) (hz : In n z) : In (n + 1) (.tuple [x, y, z]) := .tup (show 3 ≤ 5 by decide) fun e he => by
  simp only [List.mem_cons, List.not_mem_nil, or_false] at he
  rcases he with rfl | rfl | rfl <;> assumption
theorem RuleOf.inn {m : Nat} {d : PyData} (h : RuleOf m d) (hm : m ≤ 5) : In 3 d := by
  cases h with
  | gone so hw => exact in_three (.one so.atoms.1 rfl) (In.word hw hm) (.tup (show 1 ≤ 5 by decide) fun e he => by rw [List.mem_singleton.mp he]; exact .one (by decide +kernel) rfl)
  | own so hw hn =>
    refine in_three (.one so.atoms.1 rfl) (In.word hw hm) (.tup (show 2 ≤ 5 by decide) fun e he => ?_)
    simp only [List.mem_cons, List.not_mem_nil, or_false] at he
    rcases he with rfl | rfl
    · exact .one so.atoms.2 rfl
    · rcases hn with rfl | rfl <;> exact .one (by decide +kernel) rfl
  | to so hw hu hk =>
    refine in_three (.one so.atoms.1 rfl) (In.word hw hm) (in_three (.one (by decide +kernel) rfl) (In.word hu hm) (.one ?_ rfl))
    rcases hk with rfl | rfl | rfl | rfl <;> decide +kernel
theorem small_bool (b : Bool) : Small (.bool b) := by cases b <;> exact ⟨by decide, by decide, by decide +kernel⟩
theorem rep_ne {b c : Bool} (h : b = c) : (!decide (V.str (PyData.shown (.bool b)) = V.str (PyData.shown (.bool c)))) = false := by
  subst h
  simp
def farD : PyData := .tuple [.str "exact", .tuple [.str "q"], .tuple [.str "gone"]]
theorem far_rule : ruleD farD = true := by decide +kernel
theorem far_lv : Lv 3 farD := .one (by decide +kernel)
section
variable {P : Program} {w : World} {K : PySem.W.Frag} {mg : Str → Option Value} {base : Heap} {f : Addr} {fd : FuncData} {CB CL CT fI fT : Addr} {fdI fdT : FuncData}
def spLaw (K : PySem.W.Frag) : Sp := fun vs H Q _ => ∃ (a : Addr) (ns : List Int), vs = [.ref a] ∧ SqL K H a (ns.map V.int) ∧ ns.length ≤ 63 ∧ (∀ z ∈ ns, Builtin.Int.intBits z ≤ 1048576) ∧ ∀ H', Q (.bl true) H'
structure LCalls (P : Program) (w : World) (K : PySem.W.Frag) (mg : Str → Option Value) (base : Heap) : Prop where
  well : Df P w K mg base 1 "_law_well" ["_law_script", "_law_start"] (spWell K)
  rule : Df P w K mg base 4 "_law_rule" ["_law_well_here", "_law_most"] (spRuleOf K)
  any : Df P w K mg base 3 "_law_any" ["_law_well_here"] (spAny K)
  bent : Df P w K mg base 6 "_law_bent" ["_law_well_here", "_law_thing"] (spBent K 3)
  is : Df P w K mg base 5 "is_rule" ["value"] (spRule K)
  due : Df P w K mg base 4 "_law_due" ["_law_thing"] (spDue K)
  told : DfG P w K mg base 8 "_law_told" ["_law_things"] (spTold K)
def tSuite2 (K : PySem.W.Frag) (CB : Addr) : Addr → Value → Option Addr → TS := fun a cls d => tAsg (tXf a cls d CB "value" (tVar 11)) (gName 10)
theorem ok_law (Fd : Fun K "law" "law" sLaw f fd) (T : Tx mg) (Z : Err P w K mg base CB CL fI fdI) (B : Tab P w K mg base CB CT fT fdT) (D : LCalls P w K mg base) : FnG P w K mg base 9 f fd ["_law_script"] (spLaw K) := by
  refine Fun.okG Fd scLaw (fun vs H Q E h => ?_) (fun cdv A0 outer s H vs Q Ex hG hr h => ?_)
  · obtain ⟨a, ns, rfl, _⟩ := h
    rfl
  · obtain ⟨a, ns, rfl, hS, hlen, hb, q⟩ := h
    have nd := scLaw.nd
    refine ⟨_, (pss_cons (ps_for PassesOwn.never rfl (pi_range1 rfl T.range (pa_cons (pe_callB (call_max2 rfl) (by rfl) T.max (by decide +kernel) (pa_cons pe_int (pa_cons (pe_callB (call_min2 rfl) (by rfl) T.min (by decide +kernel) (pa_cons pe_int (pa_cons (pe_callB call_len_seq (by rfl) T.len PySem.boot_len (pa_cons (pv 0) pa_nil)) pa_nil))) pa_nil))) pa_nil)) (pg_name (i := 1) nd rfl (Or.inl rfl)) (pss_cons (ps_set (i := 2) nd rfl (Or.inl rfl) (pe_df D.well hr (pa_cons (pv 0) (pa_cons (pv 1) pa_nil))))
      (pss_one (ps_for PassesOwn.never rfl (pi_range1 rfl T.range (pa_cons pe_int pa_nil)) (pg_name (i := 3) nd rfl (Or.inl rfl)) (pss_cons (ps_set (i := 4) nd rfl (Or.inl rfl) (pe_df D.rule hr (pa_cons (pv 2) (pa_cons pe_int pa_nil))))
      (pss_cons (ps_set (i := 5) nd rfl (Or.inl rfl) (pe_df D.bent hr (pa_cons (pv 2) (pa_cons (pv 4) pa_nil))))
      (pss_cons (ps_for PassesOwn.never rfl (pi_list (pe_lst (pa_cons (pv 4) (pa_cons (pv 5) (pa_cons (pe_df D.bent hr (pa_cons (pv 2) (pa_cons (pv 4) pa_nil))) (pa_cons (pe_df D.any hr (pa_cons (pv 2) pa_nil)) pa_nil)))))) (pg_name (i := 6) nd rfl (Or.inl rfl)) (pss_cons (ps_set (i := 7) nd rfl (Or.inl rfl) (pe_callB (call_reprK (K := K) (P := P) (w := w) hG hr.units) (by rfl) T.repr (by decide +kernel) (pa_cons (pv 6) pa_nil)))
      (pss_one (ps_if (PW.pt (pw_or (pt_cmpR op_ne (pe_callB (call_reprK (K := K) (P := P) (w := w) hG hr.units) (by rfl) T.repr (by decide +kernel) (pa_cons (pe_df D.is hr (pa_cons (pv 6) pa_nil)) pa_nil)) (pe_callB (call_reprK (K := K) (P := P) (w := w) hG hr.units) (by rfl) T.repr (by decide +kernel) (pa_cons (pe_df D.due hr (pa_cons (pv 6) pa_nil)) pa_nil)) (nomark _)) (pw_or1 (pt_cmpR op_ne (pe_callB (call_reprK (K := K) (P := P) (w := w) hG hr.units) (by rfl) T.repr (by decide +kernel) (pa_cons (pv 6) pa_nil)) (pv 7) (nomark _))))) (pss_one (ps_ret pe_bl)) pss_nil))))
      (pss_cons (ps_set (i := 8) nd rfl (Or.inl rfl) (pe_tup (pa_cons pe_str (pa_cons (pe_tup (pa_cons pe_str pa_nil)) (pa_cons (pe_tup (pa_cons pe_str pa_nil)) pa_nil)))))
      (pss_one (ps_if (PW.pt (pw_or (pt_not (pt_val (pe_dfG D.told hG hr (pa_cons (pe_lst (pa_cons (pv 8) (pa_cons (pv 5) (pa_cons (pe_df D.any hr (pa_cons (pv 2) pa_nil)) pa_nil)))) pa_nil)))) (pw_or1 (pt_not (pt_val (pe_dfG D.told hG hr (pa_cons (pe_lst (pa_cons (pe_df D.any hr (pa_cons (pv 2) pa_nil)) (pa_cons (pv 8) pa_nil))) pa_nil))))))) (pss_one (ps_ret pe_bl)) pss_nil))))))))))
      (pss_cons (ps_par (i := 9) (j := 10) (by rfl) nd rfl rfl (by decide) rfl rfl (pa_cons (pe_lstN (pa_cons pe_str pa_nil)) (pa_cons pe_non pa_nil)) (by rfl))
      (pss_cons (ps_try_as (i := 11) (tb := fun W => tDrop (tMakeS CT (spTable K CB) (WE W) (tCons (tLst (tCons (tTup (tCons (tC (.str "open")) (tCons (tTup tNil) (tCons (tTup (tCons (tC (.str "gone")) tNil)) tNil)))) (tCons (tVar 9) tNil))) tNil))) (ts := tSuite2 K CB) (Wout := fun _ _ _ _ => False) rfl rfl nd rfl rfl ⟨rfl, by decide, Or.inl Z.gB⟩ takes0
        (fun W pn xe tk po => pss_one (ps_expr (pe_makeS B.mkT B.F (hr.mono (by decide)) (by rfl) B.gT B.hb (fun σ => passAt tk σ) (pa_cons (pe_lst (pa_cons (pe_tup (pa_cons pe_str (pa_cons (pe_tup pa_nil) (pa_cons (pe_tup (pa_cons pe_str pa_nil)) pa_nil)))) (pa_cons (pv 9) pa_nil))) pa_nil))))
        (fun a oe cls d pn hz hf => pss_one (ps_set (i := 10) nd rfl (Or.inl rfl) (pe_xf Z.xf Z.no hz hf (pv 11)))))
      (pss_cons (ps_expr (pe_bm PySem.F.plainAttrs_list PySem.F.slot_list_append PySem.F.type_list_append mt_append (pv 9) (pa_cons pe_str pa_nil)))
      (pss_one (ps_ret (pe_cmpR (op_eqD hr.units) (pv 10) (pe_lst (pa_cons pe_str (pa_cons pe_str pa_nil))) (nomark _)))))))), ?_⟩
    have rangeN : ∃ N : Nat, (if (if (((ns.map V.int).length : Nat) : Int) < 5 then (((ns.map V.int).length : Nat) : Int) else 5) > 2 then (if (((ns.map V.int).length : Nat) : Int) < 5 then (((ns.map V.int).length : Nat) : Int) else 5) else 2) = (N : Int) ∧ N ≤ 5 := by
      generalize (ns.map V.int).length = l
      by_cases h1 : (l : Int) < 5
      · rw [if_pos h1]
        by_cases h2 : (l : Int) > 2
        · exact ⟨l, if_pos h2, by omega⟩
        · exact ⟨2, if_neg h2, by decide⟩
      · rw [if_neg h1]
        exact ⟨5, rfl, by decide⟩
    obtain ⟨N, eN, hN⟩ := rangeN
    refine ⟨_, rfl, a, _, rfl, .inl hS, _, _, rfl, _, _, rfl, (N : Int), by rw [eN], by omega, by omega, for_range (lo := 0) (n := (N : Int).toNat) (fun i σ G => Same H G ∧ ∃ v1 v2 v3 v4 v5 v6 v7 v8, σ = [some (.ref a), v1, v2, v3, v4, v5, v6, v7, v8, none, none, none])
      ⟨Same.refl H, none, none, none, none, none, none, none, none, rfl⟩ ?_ ?_⟩
    · rintro j σ G hj ⟨sG, v1, v2, v3, v4, v5, v6, v7, v8, rfl⟩
      refine ⟨_, rfl, _, rfl, a, ns, _, 1048576, rfl, sG.seq hS, hlen, by decide, by decide, hb, by omega, by omega, fun wa G1 nwa W1 s1 => ?_⟩
      have nH : H wa = none := sG.free nwa
      have up : ∀ {G2 G3 : Hp}, Same H G2 → Sb wa G2 G3 → Same H G3 := fun {G2 G3} x y b o e => y b o (ne_of_none e nH) (x b o e)
      refine ⟨8, rfl, by decide, by decide, for_range (lo := 0) (n := 8) (fun i σ G2 => Same H G2 ∧ Well G2 wa ∧ ∃ v1 v3 v4 v5 v6 v7 v8, σ = [some (.ref a), v1, some (.ref wa), v3, v4, v5, v6, v7, v8, none, none, none])
        ⟨sG.trans s1, W1, _, _, _, _, _, _, _, rfl⟩ ?_ ?_⟩
      · rintro i σ G2 hi ⟨sH, W2, v1, v3, v4, v5, v6, v7, v8, rfl⟩
        refine ⟨_, rfl, wa, 5, rfl, by decide, W2, fun xr dr G3 hr3 hro W3 s3 => ?_⟩
        have hin := hro.inn (Nat.le_refl 5)
        obtain ⟨dsr, er⟩ : ∃ ds, dr = .tuple ds := by cases hro <;> exact ⟨_, rfl⟩
        subst er
        refine ⟨_, rfl, _, rfl, wa, xr, dsr, rfl, W3, hr3, hin, fun xb db G4 hb4 lb W4 s4 => ?_⟩
        have hr4 := hr3.sb W3 s4
        refine ⟨_, rfl, _, rfl, _, rfl, _, rfl, wa, xr, dsr, rfl, W4, hr4, hin, fun x2 d2 G5 h25 l2 W5 s5 => ?_⟩
        refine ⟨_, rfl, wa, rfl, W5, fun x3 G6 h36 W6 s6 => ⟨(show 4 ≤ sizeLine by decide), fun p hp => ?_⟩⟩
        obtain ⟨d3, h36, a3, _⟩ := h36
        have y7 := Same.new (o := .lst [xr, xb, x2, x3]) hp
        have s56 := s5.trans s6
        have hthings : ∀ x ∈ [xr, xb, x2, x3], ∃ d, Dd K (upd G6 p (.lst [xr, xb, x2, x3])) x d ∧ Lv 3 d := fun x hx => by
          simp only [List.mem_cons, List.not_mem_nil, or_false] at hx
          rcases hx with rfl | rfl | rfl | rfl
          · exact ⟨_, (hr4.sb W4 s56).same y7, hin.lv⟩
          · exact ⟨_, (hb4.sb W4 s56).same y7, lb⟩
          · exact ⟨_, (h25.sb W5 s6).same y7, l2⟩
          · exact ⟨_, h36.same y7, .one a3⟩
        have hb7 := (hb4.sb W4 s56).same y7
        have W7 := W6.same y7
        have s27 := s3.trans (s4.trans (s56.trans (.of y7)))
        have hp7 : SqL K (upd G6 p (.lst [xr, xb, x2, x3])) p [xr, xb, x2, x3] := .of upd_same
        generalize upd G6 p (.lst [xr, xb, x2, x3]) = G7 at hthings hb7 W7 s27 hp7 ⊢
        refine ⟨p, rfl, ⟨_, hp7⟩, for_list (K := K) (a := p) (xs := [xr, xb, x2, x3]) (fun j σ G => Same G7 G ∧ ∃ u1 u6 u7, σ = [some (.ref a), v1, some (.ref wa), u1, some xr, some xb, u6, u7, v8, none, none, none]) ⟨Same.refl G7, _, _, _, rfl⟩ (fun j σ G _ ⟨s7, _⟩ => s7.seq hp7) ?_ ?_⟩
        · rintro k x σ G8 hx ⟨s8, u1, u6, u7, rfl⟩
          obtain ⟨d, hd, hl⟩ := hthings x (List.mem_of_getElem? hx)
          have hd8 := hd.same s8
          have hsm := hl.tame.small
          have hfit := hl.tame.fit
          refine ⟨_, rfl, x, d, rfl, Dd.rds hd8, hsm, ?_⟩
          refine ⟨_, rfl, x, d, rfl, hd8, hfit, _, .bool _, rfl, Dd.rds (.bl _), small_bool _, _, rfl, x, d, rfl, hd8, hfit, fun G9 s9 => ⟨_, .bool _, rfl, Dd.rds (.bl _), small_bool _, rfl, _, rfl, ?_⟩⟩
          rw [rep_ne rfl]
          refine iteF ⟨_, rfl, x, d, rfl, Dd.rds (hd8.same s9), hsm, _, rfl, rfl, _, rfl, ?_⟩
          rw [decide_eq_true rfl]
          exact iteF ⟨s8.trans s9, _, _, _, rfl⟩
        · rintro σ G8 ⟨s8, u1, u6, u7, rfl⟩
          refine ⟨(show 1 ≤ sizeLine by decide), fun t1 h1 => ⟨(show 1 ≤ sizeLine by decide), fun t2 h2 => ⟨(show 3 ≤ sizeLine by decide), fun t3 h3 => ?_⟩⟩⟩
          have y1 := Same.new (o := .tup [.str "q"]) h1
          have y2 := Same.new (o := .tup [.str "gone"]) h2
          have y3 := Same.new (o := .tup [.str "exact", .ref t1, .ref t2]) h3
          have y23 := y2.trans y3
          have y13 := y1.trans y23
          have hfar : Dd K (upd (upd (upd G8 t1 (.tup [.str "q"])) t2 (.tup [.str "gone"])) t3 (.tup [.str "exact", .ref t1, .ref t2])) (.ref t3) farD :=
            .tup (.of upd_same) (.cons (.str _) (.cons (.tup (.of (y23 _ _ upd_same)) (.cons (.str _) .nil)) (.cons (.tup (.of (y3 _ _ upd_same)) (.cons (.str _) .nil)) .nil)))
          have hb9 := (hb7.same s8).same y13
          have W9 := (W7.same s8).same y13
          have s29 := s27.trans (.of (s8.trans y13))
          generalize upd (upd (upd G8 t1 (.tup [.str "q"])) t2 (.tup [.str "gone"])) t3 (.tup [.str "exact", .ref t1, .ref t2]) = G9 at hfar hb9 W9 s29 ⊢
          refine ⟨_, rfl, _, rfl, _, rfl, wa, rfl, W9, fun xa G10 ha W10 s10 => ⟨(show 3 ≤ sizeLine by decide), fun l hl => ?_⟩⟩
          obtain ⟨da, ha, aa, na⟩ := ha
          have y11 := Same.new (o := .lst [.ref t3, xb, xa]) hl
          have far10 := hfar.sb W9 s10
          have far11 := far10.same y11
          have all11 : DdAll K (upd G10 l (.lst [.ref t3, xb, xa])) [.ref t3, xb, xa] [farD, db, da] := .cons far11 (.cons ((hb9.sb W9 s10).same y11) (.cons (ha.same y11) .nil))
          have lv11 : ∀ e ∈ [farD, db, da], Lv 3 e := fun e he => by
            simp only [List.mem_cons, List.not_mem_nil, or_false] at he
            rcases he with rfl | rfl | rfl
            · exact far_lv
            · exact lb
            · exact .one aa
          have first : ∃ (i : Nat) (v : V) (d : PyData), [V.ref t3, xb, xa][i]? = some v ∧ [farD, db, da][i]? = some d ∧ ruleD d = false ∧ ∀ j < i, ∃ e, [farD, db, da][j]? = some e ∧ ruleD e = true := by
            cases eb : ruleD db with
            | false =>
              refine ⟨1, xb, db, rfl, rfl, eb, fun j hj => ?_⟩
              obtain rfl : j = 0 := by omega
              exact ⟨_, rfl, far_rule⟩
            | true =>
              refine ⟨2, xa, da, rfl, rfl, na, fun j hj => ?_⟩
              obtain rfl | rfl : j = 0 ∨ j = 1 := by omega
              · exact ⟨_, rfl, far_rule⟩
              · exact ⟨_, rfl, eb⟩
          obtain ⟨fi, fv, fdd, f1, f2, f3, f4⟩ := first
          have W11 := W10.same y11
          have hl11 : SqL K (upd G10 l (.lst [.ref t3, xb, xa])) l [.ref t3, xb, xa] := .of upd_same
          have s211 := s29.trans (s10.trans (.of y11))
          generalize upd G10 l (.lst [.ref t3, xb, xa]) = G11 at far11 all11 W11 hl11 s211 ⊢
          refine ⟨l, _, _, fi, fv, fdd, rfl, hl11, all11, (show 3 ≤ 8 by decide), lv11, f1, f2, f3, f4, fun G12 s12 => ⟨_, rfl, iteF ?_⟩⟩
          have W12 := W11.same s12
          refine ⟨_, rfl, wa, rfl, W12, fun xa2 G13 ha2 W13 s13 => ⟨_, rfl, (show 2 ≤ sizeLine by decide), fun l2 hl2 => ?_⟩⟩
          obtain ⟨da2, ha2, aa2, na2⟩ := ha2
          have y14 := Same.new (o := .lst [xa2, .ref t3]) hl2
          have all14 : DdAll K (upd G13 l2 (.lst [xa2, .ref t3])) [xa2, .ref t3] [da2, farD] := .cons (ha2.same y14) (.cons (((far11.same s12).sb W12 s13).same y14) .nil)
          have hl14 : SqL K (upd G13 l2 (.lst [xa2, .ref t3])) l2 [xa2, .ref t3] := .of upd_same
          have W14 := W13.same y14
          have s214 := s211.trans ((Sb.of s12).trans (s13.trans (.of y14)))
          generalize upd G13 l2 (.lst [xa2, .ref t3]) = G14 at all14 hl14 W14 s214 ⊢
          refine ⟨l2, _, _, 0, xa2, da2, rfl, hl14, all14, (show 2 ≤ 8 by decide), (fun e he => ?_), rfl, rfl, na2, (fun j hj => absurd hj (Nat.not_lt_zero _)), fun G15 s15 => ⟨_, rfl, iteF ⟨(up sH s214).trans s15, W14.same s15, _, _, _, _, _, _, _, rfl⟩⟩⟩
          simp only [List.mem_cons, List.not_mem_nil, or_false] at he
          rcases he with rfl | rfl
          · exact .one aa2
          · exact far_lv
      · rintro σ G2 ⟨sH, W2, v1, v3, v4, v5, v6, v7, v8, rfl⟩
        exact ⟨sH, _, _, _, _, _, _, _, _, rfl⟩
    · rintro σ G ⟨sG, v1, v2, v3, v4, v5, v6, v7, v8, rfl⟩
      refine ⟨(show 1 ≤ sizeLine by decide), fun o ho hon => ⟨_, _, rfl, ?_⟩⟩
      have ho1 := upd_same (H := G) (a := o) (o := .lst [.str "exact"])
      generalize upd G o (.lst [.str "exact"]) = G1 at ho1 ⊢
      refine ⟨(show 0 ≤ sizeLine by decide), fun t1 h1 => ⟨(show 1 ≤ sizeLine by decide), fun t2 h2 => ⟨(show 3 ≤ sizeLine by decide), fun t3 h3 => ⟨_, rfl, (show 2 ≤ sizeLine by decide), fun l hl a' da ha hda hne => ?_⟩⟩⟩⟩
      have y1 := Same.new (o := .tup []) h1
      have y2 := Same.new (o := .tup [.str "gone"]) h2
      have y3 := Same.new (o := .tup [.str "open", .ref t1, .ref t2]) h3
      have y4 := Same.new (o := .lst [.ref t3, .ref o]) hl
      have y5 : Same (upd (upd (upd (upd G1 t1 (.tup [])) t2 (.tup [.str "gone"])) t3 (.tup [.str "open", .ref t1, .ref t2])) l (.lst [.ref t3, .ref o])) (upd (upd (upd (upd (upd (upd G1 t1 (.tup [])) t2 (.tup [.str "gone"])) t3 (.tup [.str "open", .ref t1, .ref t2])) l (.lst [.ref t3, .ref o])) da (.own a')) a' (.ins CT da [])) := fun b o e => by
        rw [upd_ne (ne_of_none e ha), upd_ne (ne_of_none e hda)]
        exact e
      have z45 := y4.trans y5
      have z35 := y3.trans z45
      have z25 := y2.trans z35
      have z15 := y1.trans z25
      have e1 := z25 _ _ (upd_same (H := G1) (a := t1) (o := .tup []))
      have e2 := z35 _ _ (upd_same (H := upd G1 t1 (.tup [])) (a := t2) (o := .tup [.str "gone"]))
      have e3 := z45 _ _ (upd_same (H := upd (upd G1 t1 (.tup [])) t2 (.tup [.str "gone"])) (a := t3) (o := .tup [.str "open", .ref t1, .ref t2]))
      have e4 := y5 _ _ (upd_same (H := upd (upd (upd G1 t1 (.tup [])) t2 (.tup [.str "gone"])) t3 (.tup [.str "open", .ref t1, .ref t2])) (a := l) (o := .lst [.ref t3, .ref o]))
      have eo := z15 _ _ ho1
      clear y1 y2 y3 y4 y5 z45 z35 z25 z15
      generalize upd (upd (upd (upd (upd (upd G1 t1 (.tup [])) t2 (.tup [.str "gone"])) t3 (.tup [.str "open", .ref t1, .ref t2])) l (.lst [.ref t3, .ref o])) da (.own a')) a' (.ins CT da []) = G6 at e1 e2 e3 e4 eo ⊢
      refine ⟨a', l, _, [.tuple [.str "open", .tuple [], .tuple [.str "gone"]], .list [.str "exact"]], 1, .ref o, rfl, .of e4, .cons (.tup (.of e3) (.cons (.str _) (.cons (.tup (.of e1) .nil) (.cons (.tup (.of e2) (.cons (.str _) .nil)) .nil)))) (.cons (.lst (.of eo) hon (.cons (.str _) .nil)) .nil), ?_, rfl, ⟨_, rfl, rfl⟩, ?_, fun dd G7 s7 hdd hG7 => ?_⟩
      · intro e he
        simp only [List.mem_cons, List.not_mem_nil, or_false] at he
        rcases he with rfl | rfl <;> decide +kernel
      · intro j hj
        obtain rfl : j = 0 := by omega
        exact ⟨_, rfl, by decide +kernel⟩
      · refine ⟨true, Z.exb, fun _ a0 ha0 => ?_, fun q => Bool.noConfusion q⟩
        have ho7 := s7 _ _ eo
        refine ⟨_, rfl, rfl, rfl, dd, _, .ref o, rfl, hG7, by simp [List.lookup], ?_⟩
        refine ⟨_, rfl, Or.inl ⟨rfl, _, Or.inl (Or.inl ho7)⟩, o, _, _, rfl, rfl, ho7, (show 1 < sizeLine by decide), ?_⟩
        refine ⟨_, rfl, (show 2 ≤ sizeLine by decide), fun c hc => ?_⟩
        have ho8 := upd_same (H := G7) (a := o) (o := .lst ([.str "exact"] ++ [.str "x"]))
        have ho9 := (Same.new (o := .lst [.str "exact", .str "x"]) hc) _ _ ho8
        refine ⟨.list [.str "exact", .str "x"], .list [.str "exact", .str "x"], .lst (.of ho9) (.cons (.str _) (.cons (.str _) .nil)), .lst (.of upd_same) (.cons (.str _) (.cons (.str _) .nil)), by decide +kernel, by decide +kernel, ?_⟩
        rw [show PyData.eqv (.list [.str "exact", .str "x"]) (.list [.str "exact", .str "x"]) = true by decide +kernel]
        exact q _
end
end K4
namespace K4
open PySem PySem.Spec PyProof.Rows L2 Ld
theorem kit_yes {K : PySem.W.Frag} {C C' : Addr} (s : PySem.W.subIn K (.ref C) (.ref C') = some true) (hc : PySem.W.isClsIn K C' = true) (ht : PySem.W.typeIn K (.ref C') = some (.type "type")) : PySem.W.kitOne K (.ref C) (.ref C') = some true := by
  unfold PySem.W.kitOne
  by_cases e2 : (Value.ref C == Value.ref C') = true
  · rw [if_pos e2]
  · rw [if_neg e2]
    show (if ((PySem.W.clsIn K C').isSome && PySem.W.typeIn K (.ref C') == some (.type "type")) = true then PySem.W.subIn K (.ref C) (.ref C') else none) = some true
    rw [show (PySem.W.clsIn K C').isSome = true from hc, ht, if_pos (by decide)]
    exact s
theorem exm_yes {K : PySem.W.Frag} {C C' : Addr} (b : PySem.W.subIn K (.ref C') (.type "BaseException") = some true) (s : PySem.W.subIn K (.ref C) (.ref C') = some true) (hc : PySem.W.isClsIn K C' = true) (ht : PySem.W.typeIn K (.ref C') = some (.type "type")) : PySem.W.exmOne K (.ref C) (.ref C') = some true := by
  unfold PySem.W.exmOne
  rw [b, if_pos (by decide)]
  show (if ((PySem.W.clsIn K C').isSome && PySem.W.typeIn K (.ref C') == some (.type "type")) = true then PySem.W.subIn K (.ref C) (.ref C') else none) = some true
  rw [show (PySem.W.clsIn K C').isSome = true from hc, ht, if_pos (by decide)]
  exact s
/-- what the written part says of one error class -/
structure Raw (K : PySem.W.Frag) (C cL fI : Addr) (n : Str) : Prop where
  cls : ∃ nm q N bs sn sub ab col dd k0 k1 k2 k3 k5, K.lookup C = some (excClassObj nm q C N bs [.ref cL, .type "ValueError", .type "Exception", .type "BaseException", .type "object"] true sn sub ab col dd k0 k1 k2 k3 k5 "ValueError.__new__")
  sa : PySem.W.findIn K (.ref C) "__setattr__" = some (some (.builtin "object.__setattr__"))
  ga : PySem.W.findIn K (.ref C) "__getattribute__" = some (some (.builtin "BaseException.__getattribute__"))
  gg : PySem.W.findIn K (.ref C) "__getattr__" = some none
  ha : PySem.W.findIn K (.ref C) "__class__" = some (some (.builtin "object.__class__"))
  no : PySem.W.findIn K (.ref C) n = some none
  iC : PySem.W.findIn K (.ref C) "__init__" = some (some (.ref fI))
  tI : PySem.W.typeIn K (.ref fI) = some (.type "function")
  kC : PySem.W.keepIn K (.ref C) = true
  eC : PySem.W.subIn K (.ref C) (.type "BaseException") = some true
  tC : PySem.W.typeIn K (.ref C) = some (.type "type")
  hC : PySem.W.hasDictIn K C = true
  hm : PySem.W.mroIn K C (.type "object") = some true
  cC : PySem.W.isClsIn K C = true
  sL : PySem.W.subIn K (.ref C) (.ref cL) = some true
  sV : PySem.W.subIn K (.ref C) (.type "ValueError") = some true
section
variable {K : PySem.W.Frag} {C cL fI : Addr} {n : Str}
theorem Raw.oex (R : Raw K C cL fI n) : OexC K C := by
  obtain ⟨nm, q, N, bs, sn, sub, ab, col, dd, k0, k1, k2, k3, k5, h⟩ := R.cls
  exact ⟨⟨nm, q, N, bs, _, sn, sub, ab, col, dd, k0, k1, k2, k3, k5, h, by rfl⟩, R.sa, R.eC, R.tC, R.kC⟩
theorem Raw.xf (R : Raw K C cL fI n) : XfC K C := ⟨R.ga, R.gg, R.eC, R.hC⟩
theorem Raw.ex (R : Raw K C cL fI n) (hn : PySem.W.specialIn K (.builtin "object.__class__") "__get__" = some (some (.builtin "getset_descriptor.__get__"))) (ht : PySem.W.takesIn K (.builtin "object.__class__") = some true) : ExcC K C := ⟨R.ga, R.gg, R.eC, R.hC, R.ha, hn, ht, R.hm⟩
end
theorem bent0 {P : Program} {w : World} {K : PySem.W.Frag} {mg : Str → Option Value} {base : Heap} {f : Addr} {fd : FuncData} : FnOk P w K mg base CX0 3 f fd ["_law_well_here", "_law_thing"] (spBent K 0) := by
  have no : ∀ {ds : List PyData}, ¬ In 0 (.tuple ds) := fun h => by
    obtain ⟨m, e, _⟩ := h.tup_inv
    cases e
  exact ⟨fun vs H Q E h => by
    obtain ⟨_, _, _, _, _, _, h, _⟩ := h
    exact absurd h no, fun A outer s H args us vs Q E _ _ _ _ h => by
    obtain ⟨_, _, _, _, _, _, h, _⟩ := h
    exact absurd h no⟩
theorem all_mk {l : PySem.W.OpenLaw} {w : World} {K : PySem.W.Frag} {h : Heap} {mg : Str → Option Value} {fa : Addr} (X : K.In h) (G : h.Ns mainGlobals mg) (hfa : mg "law" = some (.ref fa))
    {f1 f2 f3 f4 f5 f6 f7 f8 f9 f10 f11 f12 f13 f14 f15 f16 f17 f18 f19 C0 cL i0 CT fT dT eT kd : Addr}
    {od1 an1 od2 an2 od3 an3 od4 an4 od5 an5 od6 an6 od7 an7 od8 an8 od9 an9 od10 an10 od11 an11 od12 an12 od13 an13 od14 an14 od15 an15 od16 an16 od17 an17 od18 an18 od19 an19 odi0 ani0 odT anT : Option Addr}
    {sl1 sl2 sl3 sl4 sl5 sl6 sl7 sl8 sl9 sl10 sl11 sl12 sl13 sl14 sl15 sl16 sl17 sl18 sl19 sli0 slT dts : Array (Option Value)}
    {oc1 kV1 dc1 pm1 cd1 ct1 oc2 kV2 dc2 pm2 cd2 ct2 oc3 kV3 dc3 pm3 cd3 ct3 oc4 kV4 dc4 pm4 cd4 ct4 oc5 kV5 dc5 pm5 cd5 ct5 oc6 kV6 dc6 pm6 cd6 ct6 oc7 kV7 dc7 pm7 cd7 ct7 oc8 kV8 dc8 pm8 cd8 ct8 oc9 kV9 dc9 pm9 cd9 ct9 oc10 kV10 dc10 pm10 cd10 ct10 oc11 kV11 dc11 pm11 cd11 ct11 oc12 kV12 dc12 pm12 cd12 ct12 oc13 kV13 dc13 pm13 cd13 ct13 oc14 kV14 dc14 pm14 cd14 ct14 oc15 kV15 dc15 pm15 cd15 ct15 oc16 kV16 dc16 pm16 cd16 ct16 oc17 kV17 dc17 pm17 cd17 ct17 oc18 kV18 dc18 pm18 cd18 ct18 oc19 kV19 dc19 pm19 cd19 ct19 oci0 kVi0 dci0 pmi0 cdi0 cti0 ocT kVT dcT pmT cdT ctT dtc : Value} {dtd : Option Addr} {dn kn : Nat} {h1 h2 : Int} {t1' t2' u1 u2 : Tok}
    {nm0 q0 : Str} {N0 : Addr} {bs0 sub0 : List Value} {sn0 : List Str} {ab0 : Bool} {col0 : Option Bool} {dd0 : Option Addr} {x00 x10 x20 x30 x50 : Option Value}
    (a1 : PySem.W.nsIn K mainGlobals "is_number_to" = some (some (.ref f1)))
    (l1 : K.lookup f1 = some ⟨oc1, od1, .func (PySem.W.fnOf "is_number_to" "is_number_to" (defArgs sNum) (defBody sNum) (defScope sNum) .none kV1 dc1 pm1 an1 cd1 ct1), sl1⟩)
    (c1 : PySem.W.codeIn K cd1 "is_number_to" = true)
    (k1 : PySem.W.keepIn K (.ref f1) = true)
    (a2 : PySem.W.nsIn K mainGlobals "is_word" = some (some (.ref f2)))
    (l2 : K.lookup f2 = some ⟨oc2, od2, .func (PySem.W.fnOf "is_word" "is_word" (defArgs sWord) (defBody sWord) (defScope sWord) .none kV2 dc2 pm2 an2 cd2 ct2), sl2⟩)
    (c2 : PySem.W.codeIn K cd2 "is_word" = true)
    (k2 : PySem.W.keepIn K (.ref f2) = true)
    (a3 : PySem.W.nsIn K mainGlobals "is_address" = some (some (.ref f3)))
    (l3 : K.lookup f3 = some ⟨oc3, od3, .func (PySem.W.fnOf "is_address" "is_address" (defArgs sAddr) (defBody sAddr) (defScope sAddr) .none kV3 dc3 pm3 an3 cd3 ct3), sl3⟩)
    (c3 : PySem.W.codeIn K cd3 "is_address" = true)
    (k3 : PySem.W.keepIn K (.ref f3) = true)
    (a4 : PySem.W.nsIn K mainGlobals "is_place" = some (some (.ref f4)))
    (l4 : K.lookup f4 = some ⟨oc4, od4, .func (PySem.W.fnOf "is_place" "is_place" (defArgs sPlace) (defBody sPlace) (defScope sPlace) .none kV4 dc4 pm4 an4 cd4 ct4), sl4⟩)
    (c4 : PySem.W.codeIn K cd4 "is_place" = true)
    (k4 : PySem.W.keepIn K (.ref f4) = true)
    (a5 : PySem.W.nsIn K mainGlobals "is_rule" = some (some (.ref f5)))
    (l5 : K.lookup f5 = some ⟨oc5, od5, .func (PySem.W.fnOf "is_rule" "is_rule" (defArgs sRule) (defBody sRule) (defScope sRule) .none kV5 dc5 pm5 an5 cd5 ct5), sl5⟩)
    (c5 : PySem.W.codeIn K cd5 "is_rule" = true)
    (k5 : PySem.W.keepIn K (.ref f5) = true)
    (a6 : PySem.W.nsIn K mainGlobals "_is_answer" = some (some (.ref f6)))
    (l6 : K.lookup f6 = some ⟨oc6, od6, .func (PySem.W.fnOf "_is_answer" "_is_answer" (defArgs sAnswer) (defBody sAnswer) (defScope sAnswer) .none kV6 dc6 pm6 an6 cd6 ct6), sl6⟩)
    (c6 : PySem.W.codeIn K cd6 "_is_answer" = true)
    (k6 : PySem.W.keepIn K (.ref f6) = true)
    (a7 : PySem.W.nsIn K mainGlobals "_law_well" = some (some (.ref f7)))
    (l7 : K.lookup f7 = some ⟨oc7, od7, .func (PySem.W.fnOf "_law_well" "_law_well" (defArgs sWell) (defBody sWell) (defScope sWell) .none kV7 dc7 pm7 an7 cd7 ct7), sl7⟩)
    (c7 : PySem.W.codeIn K cd7 "_law_well" = true)
    (k7 : PySem.W.keepIn K (.ref f7) = true)
    (a8 : PySem.W.nsIn K mainGlobals "_law_draw" = some (some (.ref f8)))
    (l8 : K.lookup f8 = some ⟨oc8, od8, .func (PySem.W.fnOf "_law_draw" "_law_draw" (defArgs sDraw) (defBody sDraw) (defScope sDraw) .none kV8 dc8 pm8 an8 cd8 ct8), sl8⟩)
    (c8 : PySem.W.codeIn K cd8 "_law_draw" = true)
    (k8 : PySem.W.keepIn K (.ref f8) = true)
    (a9 : PySem.W.nsIn K mainGlobals "_law_choose" = some (some (.ref f9)))
    (l9 : K.lookup f9 = some ⟨oc9, od9, .func (PySem.W.fnOf "_law_choose" "_law_choose" (defArgs sChoose) (defBody sChoose) (defScope sChoose) .none kV9 dc9 pm9 an9 cd9 ct9), sl9⟩)
    (c9 : PySem.W.codeIn K cd9 "_law_choose" = true)
    (k9 : PySem.W.keepIn K (.ref f9) = true)
    (a10 : PySem.W.nsIn K mainGlobals "_law_address" = some (some (.ref f10)))
    (l10 : K.lookup f10 = some ⟨oc10, od10, .func (PySem.W.fnOf "_law_address" "_law_address" (defArgs sAddress) (defBody sAddress) (defScope sAddress) .none kV10 dc10 pm10 an10 cd10 ct10), sl10⟩)
    (c10 : PySem.W.codeIn K cd10 "_law_address" = true)
    (k10 : PySem.W.keepIn K (.ref f10) = true)
    (a11 : PySem.W.nsIn K mainGlobals "_law_rule" = some (some (.ref f11)))
    (l11 : K.lookup f11 = some ⟨oc11, od11, .func (PySem.W.fnOf "_law_rule" "_law_rule" (defArgs sRuleOf) (defBody sRuleOf) (defScope sRuleOf) .none kV11 dc11 pm11 an11 cd11 ct11), sl11⟩)
    (c11 : PySem.W.codeIn K cd11 "_law_rule" = true)
    (k11 : PySem.W.keepIn K (.ref f11) = true)
    (a12 : PySem.W.nsIn K mainGlobals "_law_word_due" = some (some (.ref f12)))
    (l12 : K.lookup f12 = some ⟨oc12, od12, .func (PySem.W.fnOf "_law_word_due" "_law_word_due" (defArgs sWordDue) (defBody sWordDue) (defScope sWordDue) .none kV12 dc12 pm12 an12 cd12 ct12), sl12⟩)
    (c12 : PySem.W.codeIn K cd12 "_law_word_due" = true)
    (k12 : PySem.W.keepIn K (.ref f12) = true)
    (a13 : PySem.W.nsIn K mainGlobals "_law_place_due" = some (some (.ref f13)))
    (l13 : K.lookup f13 = some ⟨oc13, od13, .func (PySem.W.fnOf "_law_place_due" "_law_place_due" (defArgs sPlaceDue) (defBody sPlaceDue) (defScope sPlaceDue) .none kV13 dc13 pm13 an13 cd13 ct13), sl13⟩)
    (c13 : PySem.W.codeIn K cd13 "_law_place_due" = true)
    (k13 : PySem.W.keepIn K (.ref f13) = true)
    (a14 : PySem.W.nsIn K mainGlobals "_law_answer_due" = some (some (.ref f14)))
    (l14 : K.lookup f14 = some ⟨oc14, od14, .func (PySem.W.fnOf "_law_answer_due" "_law_answer_due" (defArgs sAnswerDue) (defBody sAnswerDue) (defScope sAnswerDue) .none kV14 dc14 pm14 an14 cd14 ct14), sl14⟩)
    (c14 : PySem.W.codeIn K cd14 "_law_answer_due" = true)
    (k14 : PySem.W.keepIn K (.ref f14) = true)
    (a15 : PySem.W.nsIn K mainGlobals "_law_due" = some (some (.ref f15)))
    (l15 : K.lookup f15 = some ⟨oc15, od15, .func (PySem.W.fnOf "_law_due" "_law_due" (defArgs sDue) (defBody sDue) (defScope sDue) .none kV15 dc15 pm15 an15 cd15 ct15), sl15⟩)
    (c15 : PySem.W.codeIn K cd15 "_law_due" = true)
    (k15 : PySem.W.keepIn K (.ref f15) = true)
    (a16 : PySem.W.nsIn K mainGlobals "_law_any" = some (some (.ref f16)))
    (l16 : K.lookup f16 = some ⟨oc16, od16, .func (PySem.W.fnOf "_law_any" "_law_any" (defArgs sAny) (defBody sAny) (defScope sAny) .none kV16 dc16 pm16 an16 cd16 ct16), sl16⟩)
    (c16 : PySem.W.codeIn K cd16 "_law_any" = true)
    (k16 : PySem.W.keepIn K (.ref f16) = true)
    (a17 : PySem.W.nsIn K mainGlobals "_law_bent" = some (some (.ref f17)))
    (l17 : K.lookup f17 = some ⟨oc17, od17, .func (PySem.W.fnOf "_law_bent" "_law_bent" (defArgs sBent) (defBody sBent) (defScope sBent) .none kV17 dc17 pm17 an17 cd17 ct17), sl17⟩)
    (c17 : PySem.W.codeIn K cd17 "_law_bent" = true)
    (k17 : PySem.W.keepIn K (.ref f17) = true)
    (a18 : PySem.W.nsIn K mainGlobals "_law_told" = some (some (.ref f18)))
    (l18 : K.lookup f18 = some ⟨oc18, od18, .func (PySem.W.fnOf "_law_told" "_law_told" (defArgs sTold) (defBody sTold) (defScope sTold) .none kV18 dc18 pm18 an18 cd18 ct18), sl18⟩)
    (c18 : PySem.W.codeIn K cd18 "_law_told" = true)
    (k18 : PySem.W.keepIn K (.ref f18) = true)
    (a19 : PySem.W.nsIn K mainGlobals "law" = some (some (.ref f19)))
    (l19 : K.lookup f19 = some ⟨oc19, od19, .func (PySem.W.fnOf "law" "law" (defArgs sLaw) (defBody sLaw) (defScope sLaw) .none kV19 dc19 pm19 an19 cd19 ct19), sl19⟩)
    (c19 : PySem.W.codeIn K cd19 "law" = true)
    (k19 : PySem.W.keepIn K (.ref f19) = true)
    (z1 : PySem.W.nsIn K mainGlobals "isinstance" = some none)
    (z2 : PySem.W.nsIn K mainGlobals "int" = some none)
    (z3 : PySem.W.nsIn K mainGlobals "bool" = some none)
    (z4 : PySem.W.nsIn K mainGlobals "str" = some none)
    (z5 : PySem.W.nsIn K mainGlobals "tuple" = some none)
    (z6 : PySem.W.nsIn K mainGlobals "list" = some none)
    (z7 : PySem.W.nsIn K mainGlobals "len" = some none)
    (z8 : PySem.W.nsIn K mainGlobals "range" = some none)
    (z9 : PySem.W.nsIn K mainGlobals "repr" = some none)
    (z10 : PySem.W.nsIn K mainGlobals "max" = some none)
    (z11 : PySem.W.nsIn K mainGlobals "min" = some none)
    {t1 : Tok}
    (g1 : PySem.W.nsIn K mainGlobals "WORD_LETTERS" = some (some (.int 12 t1)))
    {t2 : Tok}
    (g2 : PySem.W.nsIn K mainGlobals "PLACE_WORDS" = some (some (.int 4 t2)))
    {t3 : Tok}
    (g3 : PySem.W.nsIn K mainGlobals "MOST_DAYS" = some (some (.int 10000 t3)))
    (d1 : PySem.W.nsIn K mainGlobals "OWN_KINDS" = some (some (.ref kd)))
    (d2 : K.lookup kd = some ⟨.type "dict", none, .dict #[⟨h1, .str "exact" t1', .str "page" u1⟩, ⟨h2, .str "open" t2', .str "section" u2⟩] kn, #[]⟩)
    (d3 : h1 = PyData.keyHash w.params "exact")
    (d4 : h2 = PyData.keyHash w.params "open")
    (d5 : (kd == sysModules) = false)
    (eL : PySem.W.nsIn K mainGlobals "LeadError" = some (some (.ref cL)))
    (eLc : PySem.W.isClsIn K cL = true)
    (eLt : PySem.W.typeIn K (.ref cL) = some (.type "type"))
    (eLb : PySem.W.subIn K (.ref cL) (.type "BaseException") = some true)
    (kn1 : PySem.W.specialIn K (.builtin "object.__class__") "__get__" = some (some (.builtin "getset_descriptor.__get__")))
    (kt1 : PySem.W.takesIn K (.builtin "object.__class__") = some true)
    (e0 : PySem.W.nsIn K mainGlobals "BadRule" = some (some (.ref C0)))
    (e0x : K.lookup C0 = some (excClassObj nm0 q0 C0 N0 bs0 [.ref cL, .type "ValueError", .type "Exception", .type "BaseException", .type "object"] true sn0 sub0 ab0 col0 dd0 x00 x10 x20 x30 x50 "ValueError.__new__"))
    (e0sa : PySem.W.findIn K (.ref C0) "__setattr__" = some (some (.builtin "object.__setattr__")))
    (e0ga : PySem.W.findIn K (.ref C0) "__getattribute__" = some (some (.builtin "BaseException.__getattribute__")))
    (e0gg : PySem.W.findIn K (.ref C0) "__getattr__" = some none)
    (e0ha : PySem.W.findIn K (.ref C0) "__class__" = some (some (.builtin "object.__class__")))
    (e0no : PySem.W.findIn K (.ref C0) "value" = some none)
    (e0iC : PySem.W.findIn K (.ref C0) "__init__" = some (some (.ref i0)))
    (e0tI : PySem.W.typeIn K (.ref i0) = some (.type "function"))
    (e0kC : PySem.W.keepIn K (.ref C0) = true)
    (e0eC : PySem.W.subIn K (.ref C0) (.type "BaseException") = some true)
    (e0tC : PySem.W.typeIn K (.ref C0) = some (.type "type"))
    (e0hC : PySem.W.hasDictIn K C0 = true)
    (e0hm : PySem.W.mroIn K C0 (.type "object") = some true)
    (e0cC : PySem.W.isClsIn K C0 = true)
    (e0sL : PySem.W.subIn K (.ref C0) (.ref cL) = some true)
    (e0sV : PySem.W.subIn K (.ref C0) (.type "ValueError") = some true)
    (e0sS : PySem.W.subIn K (.ref C0) (.ref C0) = some true)
    (li0 : K.lookup i0 = some ⟨oci0, odi0, .func (PySem.W.fnOf "__init__" "BadRule.__init__" (defArgs sBadInit) (defBody sBadInit) (defScope sBadInit) .none kVi0 dci0 pmi0 ani0 cdi0 cti0), sli0⟩)
    (ci0 : PySem.W.codeIn K cdi0 "BadRule.__init__" = true)
    (ki0 : PySem.W.keepIn K (.ref i0) = true)
    (tb1 : PySem.W.nsIn K mainGlobals "Table" = some (some (.ref CT)))
    (tb2 : PySem.W.makesIn K CT = true)
    (tb3 : PySem.W.findIn K (.ref CT) "__init__" = some (some (.ref fT)))
    (tb4 : PySem.W.isFn K (.ref fT) = true)
    (tb5 : PySem.W.keepIn K (.ref CT) = true)
    (tb6 : K.lookup fT = some ⟨ocT, odT, .func (PySem.W.fnOf "__init__" "Table.__init__" (defArgs sTabInit) (defBody sTabInit) (defScope sTabInit) (.ref dT) kVT dcT pmT anT cdT ctT), slT⟩)
    (tb7 : PySem.W.codeIn K cdT "Table.__init__" = true)
    (tb8 : PySem.W.keepIn K (.ref fT) = true)
    (tb9 : K.lookup dT = some ⟨dtc, dtd, .seq #[.ref eT] dn, dts⟩)
    : ∃ fd : FuncData, (∀ (s : Shared) (v : Value), BindsTo s fd ⟨[v], []⟩ [("_law_script", v)]) ∧ ∀ base : Heap, K.In base → base.Ns mainGlobals mg → FnG l.prog w K mg base 9 fa fd ["_law_script"] (spLaw K) := by
  have e := hfa.symm.trans (PySem.W.mg_of X G a19)
  cases e
  have F1 := fun_mk (st := sNum) l1 c1 k1
  have b1 := F1.binds (ps := ["value", "highest"]) fun _ _ _ _ _ _ us hl => match us, hl with | [_, _], _ => rfl
  have m1 := PySem.W.mg_of X G a1
  have F2 := fun_mk (st := sWord) l2 c2 k2
  have b2 := F2.binds (ps := ["value"]) fun _ _ _ _ _ _ us hl => match us, hl with | [_], _ => rfl
  have m2 := PySem.W.mg_of X G a2
  have F3 := fun_mk (st := sAddr) l3 c3 k3
  have b3 := F3.binds (ps := ["value"]) fun _ _ _ _ _ _ us hl => match us, hl with | [_], _ => rfl
  have m3 := PySem.W.mg_of X G a3
  have F4 := fun_mk (st := sPlace) l4 c4 k4
  have b4 := F4.binds (ps := ["value"]) fun _ _ _ _ _ _ us hl => match us, hl with | [_], _ => rfl
  have m4 := PySem.W.mg_of X G a4
  have F5 := fun_mk (st := sRule) l5 c5 k5
  have b5 := F5.binds (ps := ["value"]) fun _ _ _ _ _ _ us hl => match us, hl with | [_], _ => rfl
  have m5 := PySem.W.mg_of X G a5
  have F6 := fun_mk (st := sAnswer) l6 c6 k6
  have b6 := F6.binds (ps := ["value", "own_kind"]) fun _ _ _ _ _ _ us hl => match us, hl with | [_, _], _ => rfl
  have m6 := PySem.W.mg_of X G a6
  have F7 := fun_mk (st := sWell) l7 c7 k7
  have b7 := F7.binds (ps := ["_law_script", "_law_start"]) fun _ _ _ _ _ _ us hl => match us, hl with | [_, _], _ => rfl
  have m7 := PySem.W.mg_of X G a7
  have F8 := fun_mk (st := sDraw) l8 c8 k8
  have b8 := F8.binds (ps := ["_law_well_here", "_law_many"]) fun _ _ _ _ _ _ us hl => match us, hl with | [_, _], _ => rfl
  have m8 := PySem.W.mg_of X G a8
  have F9 := fun_mk (st := sChoose) l9 c9 k9
  have b9 := F9.binds (ps := ["_law_well_here", "_law_things"]) fun _ _ _ _ _ _ us hl => match us, hl with | [_, _], _ => rfl
  have m9 := PySem.W.mg_of X G a9
  have F10 := fun_mk (st := sAddress) l10 c10 k10
  have b10 := F10.binds (ps := ["_law_well_here", "_law_most"]) fun _ _ _ _ _ _ us hl => match us, hl with | [_, _], _ => rfl
  have m10 := PySem.W.mg_of X G a10
  have F11 := fun_mk (st := sRuleOf) l11 c11 k11
  have b11 := F11.binds (ps := ["_law_well_here", "_law_most"]) fun _ _ _ _ _ _ us hl => match us, hl with | [_, _], _ => rfl
  have m11 := PySem.W.mg_of X G a11
  have F12 := fun_mk (st := sWordDue) l12 c12 k12
  have b12 := F12.binds (ps := ["_law_thing"]) fun _ _ _ _ _ _ us hl => match us, hl with | [_], _ => rfl
  have m12 := PySem.W.mg_of X G a12
  have F13 := fun_mk (st := sPlaceDue) l13 c13 k13
  have b13 := F13.binds (ps := ["_law_thing"]) fun _ _ _ _ _ _ us hl => match us, hl with | [_], _ => rfl
  have m13 := PySem.W.mg_of X G a13
  have F14 := fun_mk (st := sAnswerDue) l14 c14 k14
  have b14 := F14.binds (ps := ["_law_sort", "_law_thing"]) fun _ _ _ _ _ _ us hl => match us, hl with | [_, _], _ => rfl
  have m14 := PySem.W.mg_of X G a14
  have F15 := fun_mk (st := sDue) l15 c15 k15
  have b15 := F15.binds (ps := ["_law_thing"]) fun _ _ _ _ _ _ us hl => match us, hl with | [_], _ => rfl
  have m15 := PySem.W.mg_of X G a15
  have F16 := fun_mk (st := sAny) l16 c16 k16
  have b16 := F16.binds (ps := ["_law_well_here"]) fun _ _ _ _ _ _ us hl => match us, hl with | [_], _ => rfl
  have m16 := PySem.W.mg_of X G a16
  have F17 := fun_mk (st := sBent) l17 c17 k17
  have b17 := F17.binds (ps := ["_law_well_here", "_law_thing"]) fun _ _ _ _ _ _ us hl => match us, hl with | [_, _], _ => rfl
  have m17 := PySem.W.mg_of X G a17
  have F18 := fun_mk (st := sTold) l18 c18 k18
  have b18 := F18.binds (ps := ["_law_things"]) fun _ _ _ _ _ _ us hl => match us, hl with | [_], _ => rfl
  have m18 := PySem.W.mg_of X G a18
  have F19 := fun_mk (st := sLaw) l19 c19 k19
  have T : Tx mg := ⟨PySem.W.mg_none_of X G z1, PySem.W.mg_none_of X G z2, PySem.W.mg_none_of X G z3, PySem.W.mg_none_of X G z4, PySem.W.mg_none_of X G z5, PySem.W.mg_none_of X G z6, PySem.W.mg_none_of X G z7, PySem.W.mg_none_of X G z8, PySem.W.mg_none_of X G z9, PySem.W.mg_none_of X G z10, PySem.W.mg_none_of X G z11, ⟨_, PySem.W.mg_of X G g1⟩, ⟨_, PySem.W.mg_of X G g2⟩, ⟨_, PySem.W.mg_of X G g3⟩⟩
  have R0 : Raw K C0 cL i0 "value" := ⟨⟨_, _, _, _, _, _, _, _, _, _, _, _, _, _, e0x⟩, e0sa, e0ga, e0gg, e0ha, e0no, e0iC, e0tI, e0kC, e0eC, e0tC, e0hC, e0hm, e0cC, e0sL, e0sV⟩
  have I0 := fun_mk (st := sBadInit) li0 ci0 ki0
  have bI0 := I0.binds (ps := ["self", "value"]) fun _ _ _ _ _ _ us hl => match us, hl with | [_, _], _ => rfl
  refine ⟨PySem.W.fnOf "law" "law" (defArgs sLaw) (defBody sLaw) (defScope sLaw) .none kV19 dc19 pm19 an19 cd19 ct19, fun s v => .of_eq rfl, fun base _ _ => ?_⟩
  have Z : Err l.prog w K mg base C0 cL i0 _ := ⟨PySem.W.mg_of X G e0, PySem.W.mg_of X G eL, R0.oex, R0.iC, R0.tI, ok_badInit I0, bI0, R0.no, R0.xf, R0.ex kn1 kt1, exm_yes eLb e0sL eLc eLt, exm_yes e0eC e0sS e0cC e0tC, kit_yes e0sS e0cC e0tC⟩
  have Kk : Kinds K w mg kd _ kn := ⟨PySem.W.mg_of X G d1, ⟨d2, ⟨⟨_, _, rfl, d3⟩, ⟨_, _, rfl, d4⟩, trivial⟩, d5⟩, ⟨_, _, _, _, _, _, rfl, rfl, rfl, rfl, rfl⟩⟩
  have dNum : Df l.prog w K mg base 1 "is_number_to" ["value", "highest"] (spNum K) := ⟨_, _, m1, k1, b1, ok_num F1 T⟩
  have dWord : Df l.prog w K mg base 1 "is_word" ["value"] (spWord K) := ⟨_, _, m2, k2, b2, ok_word F2 T⟩
  have dAddr : Df l.prog w K mg base 2 "is_address" ["value"] (spAddr K) := ⟨_, _, m3, k3, b3, ok_addr F3 T dWord⟩
  have dPlace : Df l.prog w K mg base 3 "is_place" ["value"] (spPlace K) := ⟨_, _, m4, k4, b4, ok_place F4 T dAddr⟩
  have dAns : Df l.prog w K mg base 4 "_is_answer" ["value", "own_kind"] (spAnswer K) := ⟨_, _, m6, k6, b6, ok_answer F6 T dNum dWord dPlace⟩
  have dRule : Df l.prog w K mg base 5 "is_rule" ["value"] (spRule K) := ⟨_, _, m5, k5, b5, ok_rule F5 T Kk dPlace dAns⟩
  have dWell : Df l.prog w K mg base 1 "_law_well" ["_law_script", "_law_start"] (spWell K) := ⟨_, _, m7, k7, b7, ok_well F7 T⟩
  have dDraw : Df l.prog w K mg base 1 "_law_draw" ["_law_well_here", "_law_many"] spDraw := ⟨_, _, m8, k8, b8, ok_draw F8 T⟩
  have dChoose : Df l.prog w K mg base 2 "_law_choose" ["_law_well_here", "_law_things"] (spChoose K) := ⟨_, _, m9, k9, b9, ok_choose F9 T dDraw⟩
  have dAd : Df l.prog w K mg base 3 "_law_address" ["_law_well_here", "_law_most"] (spAddress K) := ⟨_, _, m10, k10, b10, ok_address F10 T dDraw dChoose⟩
  have dRo : Df l.prog w K mg base 4 "_law_rule" ["_law_well_here", "_law_most"] (spRuleOf K) := ⟨_, _, m11, k11, b11, ok_ruleOf F11 T dDraw dChoose dAd⟩
  have dWD : Df l.prog w K mg base 1 "_law_word_due" ["_law_thing"] (spWordDue K) := ⟨_, _, m12, k12, b12, ok_wordDue F12 T⟩
  have dPD : Df l.prog w K mg base 2 "_law_place_due" ["_law_thing"] (spPlaceDue K) := ⟨_, _, m13, k13, b13, ok_placeDue F13 T dWD⟩
  have dAD : Df l.prog w K mg base 3 "_law_answer_due" ["_law_sort", "_law_thing"] (spAnswerDue K) := ⟨_, _, m14, k14, b14, ok_answerDue F14 T dWD dPD⟩
  have dDue : Df l.prog w K mg base 4 "_law_due" ["_law_thing"] (spDue K) := ⟨_, _, m15, k15, b15, ok_due F15 T dPD dAD⟩
  have dAny : Df l.prog w K mg base 3 "_law_any" ["_law_well_here"] (spAny K) := ⟨_, _, m16, k16, b16, ok_any F16 T dChoose⟩
  have dB0 : Df l.prog w K mg base 3 "_law_bent" ["_law_well_here", "_law_thing"] (spBent K 0) := ⟨_, _, m17, k17, b17, bent0⟩
  have dB1 : Df l.prog w K mg base 4 "_law_bent" ["_law_well_here", "_law_thing"] (spBent K 1) := ⟨_, _, m17, k17, b17, ok_bent F17 T dDraw dAny dB0 (by decide)⟩
  have dB2 : Df l.prog w K mg base 5 "_law_bent" ["_law_well_here", "_law_thing"] (spBent K 2) := ⟨_, _, m17, k17, b17, ok_bent F17 T dDraw dAny dB1 (by decide)⟩
  have dB3 : Df l.prog w K mg base 6 "_law_bent" ["_law_well_here", "_law_thing"] (spBent K 3) := ⟨_, _, m17, k17, b17, ok_bent F17 T dDraw dAny dB2 (by decide)⟩
  have FT : FunD K "__init__" "Table.__init__" (defArgs sTabInit) (defBody sTabInit) (defScope sTabInit) [.ref eT] [] fT _ := ⟨⟨_, _, _, _, _, _, _, _, _, _, rfl, tb6, tb7, .inr ⟨by simp, dT, _, [.ref eT], dn, rfl, tb9, rfl, .cons rfl .nil⟩, .inl rfl⟩, tb8⟩
  obtain ⟨dsT, vT, bT⟩ := FT.binds1 (ps := ["self", "rules"]) 2 1 (by simp) rfl fun _ _ _ _ _ _ _ us its h1 h2 => match us, its, h1, h2 with | [_, _], [_], _, _ => ⟨_, rfl, rfl⟩
  cases vT
  have B : Tab l.prog w K mg base C0 CT fT _ := ⟨PySem.W.mg_of X G tb1, ⟨tb2, tb3, tb4, tb5⟩, ok_tabInit FT Z dRule, bT⟩
  have dTold : DfG l.prog w K mg base 8 "_law_told" ["_law_things"] (spTold K) := ⟨_, _, m18, k18, b18, ok_told F18 T Z B dDue⟩
  exact ok_law F19 T Z B ⟨dWell, dRo, dAny, dB3, dRule, dDue, dTold⟩
theorem walk {l : PySem.W.OpenLaw} {q : Program} {loose : List Str} {XP : (Str → Option Value) → Heap → Prop} {YP : World → Heap → Prop} {d : DefRec} {K : Params → PySem.W.Frag} (hn : l.most = some 63) (hdf : d.params.defaults = []) (hY : ∀ (w : World) (h : Heap), YP w h → (K w.params).In h)
    (F : ∀ (w : World) (mg : Str → Option Value) (fa : Addr) (h : Heap), (K w.params).In h → h.Ns mainGlobals mg → mg d.name = some (.ref fa) → ∃ fd : FuncData, (∀ (s : Shared) (u : Value), BindsTo s fd ⟨[u], []⟩ [("_law_script", u)]) ∧
      ∀ base : Heap, (K w.params).In base → base.Ns mainGlobals mg → FnG l.prog w (K w.params) mg base 9 fa fd ["_law_script"] (spLaw (K w.params))) : PySem.W.WalkO q loose XP YP l.row.toRowW d [] (fun f vs => PySem.call f vs) :=
  Ld.walk_G (n := 63) (k := 9) (x := "_law_script") (sp := fun w => spLaw (K w.params)) hn (by decide) hdf ⟨rfl, by decide, by decide⟩ hY F fun w H a ns h1 h2 h3 => ⟨a, ns, rfl, h3, h1, h2, fun _ => rfl⟩
end K4
open PySem PySem.W PyProof.Rows
set_option maxRecDepth 100000 in
set_option maxHeartbeats 0 in
theorem PySem.Challenge.cw_leadsever_k04_what_is_a_rule_holds : PySem.Challenge.rw_leadsever_k04_what_is_a_rule.Holds := by
  w_on; o_law; k_head; (case hw => w_witness2)
  k_fill
  refine K4.walk (l := PySem.Challenge.rw_leadsever_k04_what_is_a_rule) rfl rfl (fun w h Y => PySem.W.kIn_of Y) ?F
  case F =>
    intro w mg fa h KX G hmg
    refine' K4.all_mk KX G hmg ?a1 ?l1 ?c1 ?k1 ?a2 ?l2 ?c2 ?k2 ?a3 ?l3 ?c3 ?k3 ?a4 ?l4 ?c4 ?k4 ?a5 ?l5 ?c5 ?k5 ?a6 ?l6 ?c6 ?k6 ?a7 ?l7 ?c7 ?k7 ?a8 ?l8 ?c8 ?k8 ?a9 ?l9 ?c9 ?k9 ?a10 ?l10 ?c10 ?k10 ?a11 ?l11 ?c11 ?k11 ?a12 ?l12 ?c12 ?k12 ?a13 ?l13 ?c13 ?k13 ?a14 ?l14 ?c14 ?k14 ?a15 ?l15 ?c15 ?k15 ?a16 ?l16 ?c16 ?k16 ?a17 ?l17 ?c17 ?k17 ?a18 ?l18 ?c18 ?k18 ?a19 ?l19 ?c19 ?k19 ?z1 ?z2 ?z3 ?z4 ?z5 ?z6 ?z7 ?z8 ?z9 ?z10 ?z11 ?g1 ?g2 ?g3 ?d1 ?d2 ?d3 ?d4 ?d5 ?eL ?eLc ?eLt ?eLb ?kn1 ?kt1 ?e0 ?e0x ?e0sa ?e0ga ?e0gg ?e0ha ?e0no ?e0iC ?e0tI ?e0kC ?e0eC ?e0tC ?e0hC ?e0hm ?e0cC ?e0sL ?e0sV ?e0sS ?li0 ?ci0 ?ki0 ?tb1 ?tb2 ?tb3 ?tb4 ?tb5 ?tb6 ?tb7 ?tb8 ?tb9
    (case a1 => k_is)
    (case l1 => k_is)
    (case c1 => k_is)
    (case k1 => k_is)
    (case a2 => k_is)
    (case l2 => k_is)
    (case c2 => k_is)
    (case k2 => k_is)
    (case a3 => k_is)
    (case l3 => k_is)
    (case c3 => k_is)
    (case k3 => k_is)
    (case a4 => k_is)
    (case l4 => k_is)
    (case c4 => k_is)
    (case k4 => k_is)
    (case a5 => k_is)
    (case l5 => k_is)
    (case c5 => k_is)
    (case k5 => k_is)
    (case a6 => k_is)
    (case l6 => k_is)
    (case c6 => k_is)
    (case k6 => k_is)
    (case a7 => k_is)
    (case l7 => k_is)
    (case c7 => k_is)
    (case k7 => k_is)
    (case a8 => k_is)
    (case l8 => k_is)
    (case c8 => k_is)
    (case k8 => k_is)
    (case a9 => k_is)
    (case l9 => k_is)
    (case c9 => k_is)
    (case k9 => k_is)
    (case a10 => k_is)
    (case l10 => k_is)
    (case c10 => k_is)
    (case k10 => k_is)
    (case a11 => k_is)
    (case l11 => k_is)
    (case c11 => k_is)
    (case k11 => k_is)
    (case a12 => k_is)
    (case l12 => k_is)
    (case c12 => k_is)
    (case k12 => k_is)
    (case a13 => k_is)
    (case l13 => k_is)
    (case c13 => k_is)
    (case k13 => k_is)
    (case a14 => k_is)
    (case l14 => k_is)
    (case c14 => k_is)
    (case k14 => k_is)
    (case a15 => k_is)
    (case l15 => k_is)
    (case c15 => k_is)
    (case k15 => k_is)
    (case a16 => k_is)
    (case l16 => k_is)
    (case c16 => k_is)
    (case k16 => k_is)
    (case a17 => k_is)
    (case l17 => k_is)
    (case c17 => k_is)
    (case k17 => k_is)
    (case a18 => k_is)
    (case l18 => k_is)
    (case c18 => k_is)
    (case k18 => k_is)
    (case a19 => k_is)
    (case l19 => k_is)
    (case c19 => k_is)
    (case k19 => k_is)
    (case z1 => k_is)
    (case z2 => k_is)
    (case z3 => k_is)
    (case z4 => k_is)
    (case z5 => k_is)
    (case z6 => k_is)
    (case z7 => k_is)
    (case z8 => k_is)
    (case z9 => k_is)
    (case z10 => k_is)
    (case z11 => k_is)
    (case g1 => k_is)
    (case g2 => k_is)
    (case g3 => k_is)
    (case d1 => k_is)
    (case d2 => k_is)
    (case d3 => first | rfl | decide)
    (case d4 => first | rfl | decide)
    (case d5 => first | rfl | decide)
    (case eL => k_is)
    (case eLc => k_is)
    (case eLt => k_is)
    (case eLb => k_is)
    (case kn1 => k_is)
    (case kt1 => k_is)
    (case e0 => k_is)
    (case e0x => k_is)
    (case e0sa => k_is)
    (case e0ga => k_is)
    (case e0gg => k_is)
    (case e0ha => k_is)
    (case e0no => k_is)
    (case e0iC => k_is)
    (case e0tI => k_is)
    (case e0kC => k_is)
    (case e0eC => k_is)
    (case e0tC => k_is)
    (case e0hC => k_is)
    (case e0hm => k_is)
    (case e0cC => k_is)
    (case e0sL => k_is)
    (case e0sV => k_is)
    (case e0sS => k_is)
    (case li0 => k_is)
    (case ci0 => k_is)
    (case ki0 => k_is)
    (case tb1 => k_is)
    (case tb2 => k_is)
    (case tb3 => k_is)
    (case tb4 => k_is)
    (case tb5 => k_is)
    (case tb6 => k_is)
    (case tb7 => k_is)
    (case tb8 => k_is)
    (case tb9 => k_is)
