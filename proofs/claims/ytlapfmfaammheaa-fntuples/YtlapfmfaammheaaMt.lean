/- Which methods the kinds have. -/
import Derived.Test.YtlapfmfaammheaaCli
namespace Go.Proofs.Ytlapfmfaammheaa
open Go.RowKit
theorem m_clean_int (v : Value) (w : World) : (method 239 98 v "loop.example/g00252/impl.clean").run Try.prog w = .ok (118, v) w := by kernel_rfl
theorem m_clean_float (v : Value) (w : World) : (method 239 99 v "loop.example/g00252/impl.clean").run Try.prog w = .ok (122, v) w := by kernel_rfl
theorem m_clean_text (v : Value) (w : World) : (method 239 100 v "loop.example/g00252/impl.clean").run Try.prog w = .ok (125, v) w := by kernel_rfl
theorem m_clean_none (v : Value) (w : World) : (method 239 102 v "loop.example/g00252/impl.clean").run Try.prog w = .ok (128, v) w := by kernel_rfl
theorem m_key_int (v : Value) (w : World) : (method 239 98 v "loop.example/g00252/impl.keyPart").run Try.prog w = .ok (119, v) w := by kernel_rfl
theorem m_key_float (v : Value) (w : World) : (method 239 99 v "loop.example/g00252/impl.keyPart").run Try.prog w = .ok (123, v) w := by kernel_rfl
theorem m_key_text (v : Value) (w : World) : (method 239 100 v "loop.example/g00252/impl.keyPart").run Try.prog w = .ok (126, v) w := by kernel_rfl
theorem m_val_int (v : Value) (w : World) : (method 239 98 v "loop.example/g00252/impl.valuePart").run Try.prog w = .ok (120, v) w := by kernel_rfl
theorem m_val_float (v : Value) (w : World) : (method 239 99 v "loop.example/g00252/impl.valuePart").run Try.prog w = .ok (124, v) w := by kernel_rfl
theorem m_val_text (v : Value) (w : World) : (method 239 100 v "loop.example/g00252/impl.valuePart").run Try.prog w = .ok (127, v) w := by kernel_rfl
end Go.Proofs.Ytlapfmfaammheaa
